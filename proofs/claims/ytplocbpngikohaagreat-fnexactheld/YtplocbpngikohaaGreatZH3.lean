/-
  What held_holds needs, part 3.
-/
import Derived.Test.YtplocbpngikohaaGreatZH2
import Derived.Carry
import Derived.Deep.Slices
import Derived.ChangeMaps5
import Derived.Lib.SmallJoins
import Derived.Lib.SlicesCompact
import Derived.Deep.RegionWith
import Derived.Deep.RegionHeld3
import Derived.Deep.DeepCutAuto
namespace Go.Proofs.YtplocbpngikohaaGreat
open Go.ChangeShapes Go.WideShapes Go.ChangeAt Go.RowKit Go.Joins Go.Deep

theorem rowsG_of2 {α : Type} {K : Kd α} {E : α → Prop} {W : World} (a : Option Addr) : ∀ n : Nat, (∀ j, j < n → ∃ p o q, a = some ⟨p, o, none⟩ ∧ p < W.heap.size ∧ (∀ i v, (K.cs q)[i]? = some v → W.cell? ⟨p, o + j * K.k + i, none⟩ = some v) ∧ E q) → ∃ ps : List α, ps.length = n ∧ RowG K W a ps ∧ ∀ q ∈ ps, E q
  | 0, _ => ⟨[], rfl, RowG.nil _ _ _, fun _ h => by cases h⟩
  | n + 1, h => by
      obtain ⟨ps, hl, hb, he⟩ := rowsG_of2 a n (fun j hj => h j (by omega))
      obtain ⟨p, o, q, ha, hp, c, hq⟩ := h n (by omega)
      refine ⟨ps ++ [q], by simp [hl], fun j hj => ?_, fun x hx => ?_⟩
      · by_cases hjn : j < n
        · obtain ⟨p', o', z, ha', hp', hz, hc'⟩ := hb j (by omega)
          exact ⟨p', o', z, ha', hp', by rw [List.getElem?_append_left (by omega)]; exact hz, hc'⟩
        · have : j = n := by simp at hj; omega
          subst this
          exact ⟨p, o, q, ha, hp, by rw [List.getElem?_append_right (by omega), hl]; simp, c⟩
      · rcases List.mem_append.1 hx with hx | hx
        · exact he x hx
        · rw [List.mem_singleton] at hx; subst hx; exact hq

/-- One out of its five cells. -/
theorem ofBk2 {H : Type} {enc : TypeId × Value → H} {W : World} {fuel : Nat} {cs : List Value} {x : DataW H × List MemPlace} (hl : cs.length = 5)
    (h : DataW.trod enc Tryz.prog W 0 (fun _ => true) true fuel 114 cs = some x) : ∃ q : Bk, cs = q.cs ∧ q.t.size ≤ 9223372036854775807 := by
  match cs, hl with
  | [c0, c1, c2, c3, c4], _ =>
    obtain ⟨z0, z1, n, hx, _, h0, h1⟩ := trod_struct2 Tryz.underlying114 h
    have k0 : Tryz.prog.cellsOf 112 = 4 := by kernel_rfl
    have kl : Tryz.prog.cellsOf 9 = 1 := by kernel_rfl
    simp [k0, kl] at h0 h1
    obtain ⟨p, hp⟩ := pf_of rfl h0
    obtain ⟨y, e1, _, wy⟩ := DataW.trod_string Tryz.underlying9 h1
    simp at e1
    subst e1
    have hp' : [c0, c1, c2, c3] = [.bool p.s, .int .i64 p.H.toInt, .int .i64 p.L.toInt, .int .i64 p.b] := hp
    simp only [List.cons.injEq, and_true] at hp'
    obtain ⟨rfl, rfl, rfl, rfl⟩ := hp'
    exact ⟨⟨p, y⟩, rfl, by unfold maxLen at wy; show y.size ≤ _; omega⟩

set_option maxRecDepth 100000 in
/-- The things out of the reading of a row of them. -/
theorem openBk2 {H : Type} {enc : TypeId × Value → H} {W : World} {a : Option Addr} {len cap : Nat} {d : DataW H} {p : List MemPlace}
    (h : DataW.Trod enc Tryz.prog W 0 (fun _ => true) true 23 (.slice a len cap) d p) : ∃ ps : List Bk, ps.length = len ∧ len ≤ 9223372036854775807 ∧ RowG KBk W a ps ∧ ∀ q ∈ ps, q.t.size ≤ 9223372036854775807 := by
  obtain ⟨fuel, hf⟩ := h
  rcases open_slice Tryz.underlying23 hf with ⟨hcs, _⟩ | ⟨a', len', cap', m, n, D, Plc, hcs, _, hl, hmx, hm, _, hV⟩
  · simp [Value.cells] at hcs
    obtain ⟨rfl, rfl, rfl⟩ := hcs
    exact ⟨[], rfl, by omega, RowG.nil _ _ _, fun _ h => by cases h⟩
  · simp [Value.cells] at hcs
    obtain ⟨rfl, rfl, rfl⟩ := hcs
    suffices h9 : ∃ ps : List Bk, ps.length = len ∧ RowG KBk W (some a') ps ∧ ∀ q ∈ ps, q.t.size ≤ 9223372036854775807 by
      obtain ⟨ps, h1, h2⟩ := h9
      exact ⟨ps, h1, by unfold maxLen at hmx; omega, h2⟩
    refine rowsG_of2 (E := fun q : Bk => q.t.size ≤ 9223372036854775807) _ _ fun j hj => ?_
    simp at hm
    obtain ⟨cs', h1, h2⟩ := hV j (by omega)
    rw [Tryz.cellsBk] at h1
    obtain ⟨_, hlen, hcell⟩ := World.cells?_some h1
    obtain ⟨q, rfl, hq9⟩ := ofBk2 hlen h2
    obtain ⟨p', o', sp⟩ := a'
    cases sp with
    | some r =>
      exfalso
      obtain ⟨cs0, g1, g2⟩ := hV 0 (by omega)
      rw [Tryz.cellsBk] at g1
      obtain ⟨_, glen, gcell⟩ := World.cells?_some g1
      obtain ⟨q0, rfl, _⟩ := ofBk2 glen g2
      have h0 := gcell 0 (by omega)
      rw [Nat.zero_mul, show Addr.add (Addr.add ⟨p', o', some r⟩ 0) 0 = ⟨p', o', some r⟩ from rfl] at h0
      unfold World.cell? at h0
      split at h0
      · simp [Bk.cs] at h0
      · cases h0
    | none =>
      have ea : ∀ i k : Nat, Addr.add (Addr.add ⟨p', o', none⟩ i) k = ⟨p', o' + i + k, none⟩ := fun i k => by
        have ea1 : ∀ (o k : Nat), Addr.add ⟨p', o, none⟩ k = ⟨p', o + k, none⟩ := fun o k => by unfold Addr.add; split <;> simp_all
        rw [ea1, ea1]
      have hall : ∀ i v, (KBk.cs q)[i]? = some v → W.cell? ⟨p', o' + j * KBk.k + i, none⟩ = some v := fun i v hv => by
        have hi : i < 5 := by
          rcases Nat.lt_or_ge i (KBk.cs q).length with h1 | h1
          · exact h1
          · rw [List.getElem?_eq_none h1] at hv; cases hv
        have e0 := hcell i hi
        rw [ea] at e0
        exact e0.trans hv
      exact ⟨p', o', q, rfl, World.block_lt_of_cell? W _ (hall 0 _ rfl), hall, hq9⟩

/-- How many bytes the owners have. -/
def sumT : List Bk → Nat
  | [] => 0
  | q :: t => q.t.size + sumT t
theorem sumT_app : ∀ xs ys : List Bk, sumT (xs ++ ys) = sumT xs + sumT ys
  | [], ys => by simp [sumT]
  | q :: t, ys => by simp [sumT, sumT_app t ys]; omega
theorem sumT_next {bs : List Bk} {k : Nat} {q : Bk} (h : bs[k]? = some q) : sumT (bs.take (k + 1)) = sumT (bs.take k) + q.t.size := by
  rw [List.take_add_one, h, sumT_app]; simp [sumT]
theorem sumT_le (bs : List Bk) (k : Nat) : sumT (bs.take k) ≤ sumT bs := by
  conv => rhs; rw [← List.take_append_drop k bs, sumT_app]
  omega

def szO (l : Int) (n : Nat) : Int := if l - (n : Int) < 0 then -1 else l - (n : Int)
def szB (n s : Nat) (l : Int) : Int := if (n : Int) + (s : Int) ≤ l then l - n - s else -1
def szT (t : Int) : Int := if t ≤ 1048576 then 1048576 - t else -1
theorem szO_yes {l : Int} {n : Nat} (h : l - (n : Int) < 0) : szO l n = -1 := by unfold szO; rw [if_pos h]
theorem szO_no {l : Int} {n : Nat} (h : ¬ l - (n : Int) < 0) : szO l n = l - (n : Int) := by unfold szO; rw [if_neg h]
theorem szB_yes {n s : Nat} {l : Int} (h : (n : Int) + (s : Int) ≤ l) : szB n s l = l - n - s := by unfold szB; rw [if_pos h]
theorem szB_no {n s : Nat} {l : Int} (h : ¬ (n : Int) + (s : Int) ≤ l) : szB n s l = -1 := by unfold szB; rw [if_neg h]
theorem szT_yes {t : Int} (h : t ≤ 1048576) : szT t = 1048576 - t := by unfold szT; rw [if_pos h]
theorem szT_no {t : Int} (h : ¬ t ≤ 1048576) : szT t = -1 := by unfold szT; rw [if_neg h]

set_option maxHeartbeats 400000 in
theorem szBlock_any (q : Bk) (l : Int) (h0 : 0 ≤ l) (h1 : l ≤ 1048576) (h9 : q.t.size ≤ 9223372036854775807) (w : World) :
    Calls Tryz.prog 59 #[.agg #[.bool q.p.s, .int .i64 q.p.H.toInt, .int .i64 q.p.L.toInt, .int .i64 q.p.b, .string q.t], .int .i64 l] w fun e w' => e = .returned (.int .i64 (szO l q.t.size)) ∧ Below w.heap.size w w' := by
  by_cases hd : l - (q.t.size : Int) < 0
  · rw [szO_yes hd]
    go_enter Tryz.func59, Tryz.ntmps59
    go_wp2
    go_ret
    exact ⟨rfl, (Below.refl _ _).alloc (Nat.le_refl _) _⟩
  · rw [szO_no hd]
    have hd2 : decide (l - (q.t.size : Int) < 0) = false := decide_eq_false hd
    go_enter Tryz.func59, Tryz.ntmps59
    go_wp2
    go_ret
    exact ⟨rfl, (Below.refl _ _).alloc (Nat.le_refl _) _⟩

set_option maxHeartbeats 1000000 in
theorem szBlockS_any (a : Option Addr) (n cap : Nat) (bs : List Bk) (l : Int) (h0 : 0 ≤ l) (h1 : l ≤ 1048576) (w : World) (hn : n = bs.length) (hB : RowG KBk w a bs) (h9 : n ≤ 9223372036854775807) (hst : ∀ q ∈ bs, q.t.size ≤ 9223372036854775807) :
    Calls Tryz.prog 32 #[.slice a n cap, .int .i64 l] w fun e w' => e = .returned (.int .i64 (szB n (sumT bs) l)) ∧ Below w.heap.size w w' := by
  have HB := hidP hB
  have HN := hidP hn
  have HST := hidP hst
  clear hB hn hst
  by_cases hnl : l < (n : Int)
  · rw [szB_no (by omega)]
    have d1 : decide (l - (n : Int) < 0) = true := decide_eq_true (by omega)
    go_enter Tryz.func32, Tryz.ntmps32
    go_wp2
    go_ret
    exact ⟨rfl, Below.refl _ _⟩
  · have d1 : decide (l - (n : Int) < 0) = false := decide_eq_false (by omega)
    have d2 : ¬ (l - (n : Int) < 0) := by omega
    go_enter Tryz.func32, Tryz.ntmps32
    go_wp2_with fail
    go_loopw [1, 5] (fun t1 t5 wr => ∃ (k : Nat) (z : Int), k ≤ n ∧ t5 = .int .i64 k ∧ t1 = .int .i64 z ∧ z = l - n - sumT (bs.take k) ∧ 0 ≤ z ∧ Below w.heap.size w wr) (fun _ t5 _ => n - (intOf t5).toNat)
    case atStart => exact ⟨0, l - n, Nat.zero_le _, rfl, rfl, by simp [sumT], by omega, Below.refl _ _⟩
    case round =>
      obtain ⟨k, z, hk, rfl, rfl, hz, hz0, hbel⟩ := hrel
      by_cases hlt : k < n
      · obtain ⟨p, o, q, rfl, hp, hq, c0, c1, c2, c3, c4⟩ := rowBk HB.out k (by rw [← HN.out]; exact hlt)
        have d0 := (hbel.cell hp).trans c0
        have d1 := (hbel.cell hp).trans c1
        have d2 := (hbel.cell hp).trans c2
        have d3 := (hbel.cell hp).trans c3
        have d4 := (hbel.cell hp).trans c4
        have HBel := hidP hbel
        have HNx := hidP (sumT_next hq)
        have HLe := hidP (sumT_le bs (k + 1))
        have hz1 : z ≤ 1048576 := by omega
        have HZ := hidP hz
        have HS := hidP (szBlock_any q z hz0 hz1 (HST.out q (List.mem_of_getElem? hq)))
        clear c0 c1 c2 c3 c4 hq hbel hz
        by_cases hd : z - (q.t.size : Int) < 0
        · rw [szO_yes hd] at HS
          have HF : Hid (¬ ((n : Int) + (sumT bs : Int) ≤ l)) := hidP (by have := HZ.out; have := HNx.out; have := HLe.out; omega)
          go_wp2_with fail
          refine (HS.out _).mono ?_
          rintro e w2 ⟨rfl, hb2⟩
          have HB2 := hidP (HBel.out.trans (hb2.mono HBel.out.size))
          clear hb2 HBel d0 d1 d2 d3 d4
          go_wp2_with fail
          go_ret
          exact ⟨ret_i (szB_no (by have := HF.out; omega)).symm, HB2.out⟩
        · rw [szO_no hd] at HS
          have hd2 : decide (z - (q.t.size : Int) < 0) = false := decide_eq_false hd
          go_wp2_with fail
          refine (HS.out _).mono ?_
          rintro e w2 ⟨rfl, hb2⟩
          have HB2 := hidP (HBel.out.trans (hb2.mono HBel.out.size))
          clear hb2 HBel d0 d1 d2 d3 d4
          go_wp2_with fail
          go_roundw
          case rel => exact ⟨k + 1, z - (q.t.size : Int), by omega, by go_num, rfl, by have := HZ.out; have := HNx.out; omega, by omega, HB2.out⟩
          case measure => simp [intOf]; omega
      · have hkn : k = n := by omega
        have HF : Hid ((n : Int) + (sumT bs : Int) ≤ l ∧ z = l - n - sumT bs) := by
          rw [List.take_of_length_le (by have := HN.out; omega)] at hz
          exact hidP ⟨by omega, hz⟩
        have HBel := hidP hbel
        clear hbel hz
        go_wp2_with fail
        go_ret
        exact ⟨ret_i (by rw [szB_yes HF.out.1, ← HF.out.2]), HBel.out⟩

/-- How much of a law's room a plan takes. -/
def totP (ps : List Pl) (bs : List Bk) : Int := ps.length + (bs.length + sumT bs)

set_option maxHeartbeats 1000000 in
theorem szPlan_any (ap : Option Addr) (np cp : Nat) (ab : Option Addr) (nb cb : Nat) (ps : List Pl) (bs : List Bk) (w : World) (hnp : np = ps.length) (hnb : nb = bs.length) (hK : RowG KBk w ab bs) (h9 : np ≤ 9223372036854775807) (h9' : nb ≤ 9223372036854775807) (hst : ∀ q ∈ bs, q.t.size ≤ 9223372036854775807) :
    Calls Tryz.prog 13 #[.agg #[.slice ap np cp, .slice ab nb cb], .int .i64 1048576] w fun e w' => e = .returned (.int .i64 (szT (totP ps bs))) ∧ Below w.heap.size w w' := by
  unfold totP
  rw [← hnp, ← hnb]
  by_cases hl : (np : Int) ≤ 1048576
  · have HP := hidP (szPoolS_any ap np cp 1048576 hl (Int.le_refl _))
    have HBk := hidP (fun W h => szBlockS_any ab nb cb bs (1048576 - np) (by omega) (by omega) W hnb (hK.later h) h9' hst)
    have hz0 : ¬ (1048576 - (np : Int) < 0) := by omega
    have hz1 : decide (1048576 - (np : Int) < 0) = false := decide_eq_false hz0
    clear hK hnp hnb hst
    by_cases ht : (nb : Int) + (sumT bs : Int) ≤ 1048576 - np
    · rw [szB_yes ht] at HBk
      rw [szT_yes (by omega)]
      have hz2 : decide (1048576 - (np : Int) - (nb : Int) - (sumT bs : Int) < 0) = false := decide_eq_false (by omega)
      generalize he : (1048576 - (np : Int) - (nb : Int) - (sumT bs : Int)) = z at *
      have hz3 : ¬ z < 0 := by omega
      have HE := hidP he
      clear he
      go_enter Tryz.func13, Tryz.ntmps13
      go_wp2_with fail
      obtain ⟨u0, u1⟩ := box2 (u := .slice ap np cp) (v := .slice ab nb cb) w 25
      have uB := alloc_below w (.cells #[.slice ap np cp, .slice ab nb cb] 25)
      have uL := alloc_lt w (.cells #[.slice ap np cp, .slice ab nb cb] 25)
      have uS : (w.alloc (.cells #[.slice ap np cp, .slice ab nb cb] 25)).heap.size = w.heap.size + 1 := by simp
      generalize w.alloc (.cells #[.slice ap np cp, .slice ab nb cb] 25) = W1 at *
      have HU := hidP uB
      refine (HP.out _).mono ?_
      rintro e w1 ⟨rfl, rfl⟩
      clear uB uS
      go_wp2_with fail
      refine (HBk.out _ HU.out).mono ?_
      rintro e w2 ⟨rfl, hb2⟩
      have HB2 := hidP hb2
      clear hb2
      go_wp2_with fail
      go_ret
      exact ⟨ret_i (by have := HE.out; omega), HU.out.trans (HB2.out.mono HU.out.size)⟩
    · rw [szB_no ht] at HBk
      rw [szT_no (by omega)]
      go_enter Tryz.func13, Tryz.ntmps13
      go_wp2_with fail
      obtain ⟨u0, u1⟩ := box2 (u := .slice ap np cp) (v := .slice ab nb cb) w 25
      have uB := alloc_below w (.cells #[.slice ap np cp, .slice ab nb cb] 25)
      have uL := alloc_lt w (.cells #[.slice ap np cp, .slice ab nb cb] 25)
      have uS : (w.alloc (.cells #[.slice ap np cp, .slice ab nb cb] 25)).heap.size = w.heap.size + 1 := by simp
      generalize w.alloc (.cells #[.slice ap np cp, .slice ab nb cb] 25) = W1 at *
      have HU := hidP uB
      refine (HP.out _).mono ?_
      rintro e w1 ⟨rfl, rfl⟩
      clear uB uS
      go_wp2_with fail
      refine (HBk.out _ HU.out).mono ?_
      rintro e w2 ⟨rfl, hb2⟩
      have HB2 := hidP hb2
      clear hb2
      go_wp2_with fail
      go_ret
      exact ⟨rfl, HU.out.trans (HB2.out.mono HU.out.size)⟩
  · have HP := hidP (szPoolS_big ap np cp 1048576 (by omega) (by omega) h9)
    rw [szT_no (by omega)]
    clear hK hnp hnb hst
    go_enter Tryz.func13, Tryz.ntmps13
    go_wp2_with fail
    refine (HP.out _).mono ?_
    rintro e w1 ⟨rfl, rfl⟩
    go_wp2_with fail
    go_ret
    exact ⟨rfl, (Below.refl _ _).alloc (Nat.le_refl _) _⟩

set_option maxHeartbeats 1000000 in
theorem toPlan_any (ap : Option Addr) (np cp : Nat) (ab : Option Addr) (nb cb : Nat) (ps : List Pl) (bs : List Bk) (w : World) (hnp : np = ps.length) (hnb : nb = bs.length) (hP : RowG KPl w ap ps) (hK : RowG KBk w ab bs) (hl : np ≤ 1048576) (hl' : nb ≤ 1048576) :
    Calls Tryz.prog 20 #[.agg #[.slice ap np cp, .slice ab nb cb]] w fun e w' => ∃ g h, e = .returned (.agg #[.slice (some ⟨g, 0, none⟩) np np, .slice (some ⟨h, 0, none⟩) nb nb]) ∧ OwnG KPl 86 w' w.heap.size (.slice (some ⟨g, 0, none⟩) np np) ps ∧ OwnG KBk 67 w' w.heap.size (.slice (some ⟨h, 0, none⟩) nb nb) bs ∧ g ≠ h ∧ Below w.heap.size w w' := by
  have HTP := hidP (fun W h => toPoolS_any ap np cp ps W hnp (hP.later h) hl)
  have HTB := hidP (fun W h => toBlockS_any ab nb cb bs W hnb (hK.later h) hl')
  clear hP hK hnp hnb
  go_enter Tryz.func20, Tryz.ntmps20
  go_wp2_with fail
  refine (HTP.out _ ?_).mono ?_
  · repeat (first | with_reducible exact Below.refl _ _ | (with_reducible refine Below.drew ?_) | (with_reducible refine Below.alloc ?_ ?_ _; rotate_left; (focus (first | omega | (simp; omega) | (simp; done)))) | (with_reducible refine Below.setCell ?_ ?_ _; rotate_left; (focus (first | omega | (simp; omega) | (simp; done)))))
  rintro e w1 ⟨g, rfl, og, hb1⟩
  have hz1 := hb1.size
  try simp at hz1
  have hgl := OwnG.lt og g rfl
  try simp at hgl
  have f10 : w.heap.size < w1.heap.size := by omega
  have f11 : w.heap.size + 1 < w1.heap.size := by omega
  have f12 : w.heap.size + 2 < w1.heap.size := by omega
  refine olds_k (w.heap.size + 3) hb1 ?_ ?_
  · first | omega | (simp; omega) | (simp; done)
  intro hc1 hf1
  have OG := hidP og
  clear og
  go_wp2_with fail
  refine (HTB.out _ ?_).mono ?_
  · repeat (first | with_reducible exact Below.refl _ _ | (with_reducible refine Below.drew ?_) | (with_reducible refine Below.alloc ?_ ?_ _; rotate_left; (focus (first | omega | (simp; omega) | (simp; done)))) | (with_reducible refine Below.setCell ?_ ?_ _; rotate_left; (focus (first | omega | (simp; omega) | (simp; done)))) | (with_reducible refine Below.trans ?_ (hb1.mono ?_); rotate_left; (focus (first | omega | (simp; omega) | (simp; done)))))
  rintro e w2 ⟨h, rfl, oh, hb2⟩
  have hz2 := hb2.size
  try simp at hz2
  have hhl := OwnG.lt oh h rfl
  try simp at hhl
  have f20 : w.heap.size < w2.heap.size := by omega
  have f21 : w.heap.size + 1 < w2.heap.size := by omega
  have f22 : w.heap.size + 2 < w2.heap.size := by omega
  refine olds_k (w1.heap.size) hb2 ?_ ?_
  · first | omega | (simp; omega) | (simp; done)
  intro hc2 hf2
  have OH := hidP oh
  clear oh
  have OG2 := hidP ((OwnG.grown OG.out (grown_cellG w1 (w.heap.size + 2) 0 (.slice (some ⟨g, 0, none⟩) np np)) (fun k hk => by simp [Value.ownBlock] at hk; subst hk; intro hh; simp at hh; omega)).later hb2)
  have hgh : g ≠ h := by omega
  have q0 : w2.cell? ⟨w.heap.size + 1, 0, none⟩ = some (.slice none 0 0) := by rw [hc2 _ _ f11]; simp [go_sem, hc1]
  have q1 : w2.cell? ⟨w.heap.size + 1, 1, none⟩ = some (.slice none 0 0) := by rw [hc2 _ _ f11]; simp [go_sem, hc1]
  go_wp2_with fail
  refine bodyPost_ret (v := .agg #[.slice (some ⟨g, 0, none⟩) np np, .slice (some ⟨h, 0, none⟩) nb nb]) (by simp [results, Tryz.results20, go_sem, q0, q1]) rfl ⟨g, h, rfl, ?_, ?_, hgh, ?_⟩
  · have o1 := OwnG.grown OG2.out (grown_cellG w2 (w.heap.size + 1 + 1) 1 (.slice (some ⟨h, 0, none⟩) nb nb)) (fun k hk => by simp [Value.ownBlock] at hk; subst hk; intro hh; simp at hh; omega)
    have o2 := OwnG.grown o1 (grown_cellG _ (w.heap.size + 1) 0 (.slice (some ⟨g, 0, none⟩) np np)) (fun k hk => by simp [Value.ownBlock] at hk; subst hk; intro hh; simp at hh; omega)
    have o3 := OwnG.grown o2 (grown_cellG _ (w.heap.size + 1) 1 (.slice (some ⟨h, 0, none⟩) nb nb)) (fun k hk => by simp [Value.ownBlock] at hk; subst hk; intro hh; simp at hh; omega)
    exact o3.mono (by simp; omega)
  · have o1 := OwnG.grown OH.out (grown_cellG w2 (w.heap.size + 1 + 1) 1 (.slice (some ⟨h, 0, none⟩) nb nb)) (fun k hk => by simp [Value.ownBlock] at hk; subst hk; intro hh; simp at hh; omega)
    have o2 := OwnG.grown o1 (grown_cellG _ (w.heap.size + 1) 0 (.slice (some ⟨g, 0, none⟩) np np)) (fun k hk => by simp [Value.ownBlock] at hk; subst hk; intro hh; simp at hh; omega)
    have o3 := OwnG.grown o2 (grown_cellG _ (w.heap.size + 1) 1 (.slice (some ⟨h, 0, none⟩) nb nb)) (fun k hk => by simp [Value.ownBlock] at hk; subst hk; intro hh; simp at hh; omega)
    exact o3.mono (by simp; omega)
  · repeat (first | with_reducible exact Below.refl _ _ | (with_reducible refine Below.drew ?_) | (with_reducible refine Below.alloc ?_ ?_ _; rotate_left; (focus (first | omega | (simp; omega) | (simp; done)))) | (with_reducible refine Below.setCell ?_ ?_ _; rotate_left; (focus (first | omega | (simp; omega) | (simp; done)))) | (with_reducible refine Below.trans ?_ (hb2.mono ?_); rotate_left; (focus (first | omega | (simp; omega) | (simp; done)))) | (with_reducible refine Below.trans ?_ (hb1.mono ?_); rotate_left; (focus (first | omega | (simp; omega) | (simp; done)))))

set_option maxHeartbeats 1000000 in
theorem eqPlan_same (ap ap' : Option Addr) (np cp cp' : Nat) (ab ab' : Option Addr) (nb cb cb' : Nat) (ps : List Pl) (bs : List Bk) (w : World) (hnp : np = ps.length) (hnb : nb = bs.length) (hP : RowG KPl w ap ps) (hP' : RowG KPl w ap' ps) (hK : RowG KBk w ab bs) (hK' : RowG KBk w ab' bs) (hl : np ≤ 9000000000) (hl' : nb ≤ 9000000000) :
    Calls Tryz.prog 27 #[.agg #[.slice ap np cp, .slice ab nb cb], .agg #[.slice ap' np cp', .slice ab' nb cb']] w fun e w' => e = .returned (.bool true) ∧ Below w.heap.size w w' := by
  have HTP := hidP (fun W h => eqPoolS_same ap ap' np cp cp' ps W hnp (hP.later h) (hP'.later h) hl)
  have HTB := hidP (fun W h => eqBlockS_same ab ab' nb cb cb' bs W hnb (hK.later h) (hK'.later h) hl')
  clear hP hP' hK hK' hnp hnb
  go_enter Tryz.func27, Tryz.ntmps27
  go_wp2_with fail
  refine (HTP.out _ ?_).mono ?_
  · repeat (first | with_reducible exact Below.refl _ _ | (with_reducible refine Below.drew ?_) | (with_reducible refine Below.alloc ?_ ?_ _; rotate_left; (focus (first | omega | (simp; omega) | (simp; done)))) | (with_reducible refine Below.setCell ?_ ?_ _; rotate_left; (focus (first | omega | (simp; omega) | (simp; done)))))
  rintro e w1 ⟨rfl, hb1⟩
  have hz1 := hb1.size
  try simp at hz1
  have f10 : w.heap.size < w1.heap.size := by omega
  have f11 : w.heap.size + 1 < w1.heap.size := by omega
  refine olds_k (w.heap.size + 2) hb1 ?_ ?_
  · first | omega | (simp; omega) | (simp; done)
  intro hc1 hf1
  go_wp2_with fail
  refine (HTB.out _ ?_).mono ?_
  · repeat (first | with_reducible exact Below.refl _ _ | (with_reducible refine Below.drew ?_) | (with_reducible refine Below.alloc ?_ ?_ _; rotate_left; (focus (first | omega | (simp; omega) | (simp; done)))) | (with_reducible refine Below.setCell ?_ ?_ _; rotate_left; (focus (first | omega | (simp; omega) | (simp; done)))) | (with_reducible refine Below.trans ?_ (hb1.mono ?_); rotate_left; (focus (first | omega | (simp; omega) | (simp; done)))))
  rintro e w2 ⟨rfl, hb2⟩
  go_wp2_with fail
  go_ret
  refine ⟨rfl, ?_⟩
  repeat (first | with_reducible exact Below.refl _ _ | (with_reducible refine Below.drew ?_) | (with_reducible refine Below.alloc ?_ ?_ _; rotate_left; (focus (first | omega | (simp; omega) | (simp; done)))) | (with_reducible refine Below.setCell ?_ ?_ _; rotate_left; (focus (first | omega | (simp; omega) | (simp; done)))) | (with_reducible refine Below.trans ?_ (hb2.mono ?_); rotate_left; (focus (first | omega | (simp; omega) | (simp; done)))) | (with_reducible refine Below.trans ?_ (hb1.mono ?_); rotate_left; (focus (first | omega | (simp; omega) | (simp; done)))))

end Go.Proofs.YtplocbpngikohaaGreat
namespace Go.Proofs.YtplocbpngikohaaGreat
open Go.ChangeShapes Go.WideShapes Go.ChangeAt Go.RowKit Go.Joins Go.Deep

structure Ad where
  s : Bool
  H : BitVec 64
  L : BitVec 64
def Ad.key (a : Ad) : Nat := keyN a.s a.H a.L
def Ad.ok (a : Ad) : Bool := okB a.s a.H.toInt a.L.toInt
structure Ls where
  a : Ad
  t : ByteArray
  k : Int
  u : Int
def Ls.cs (q : Ls) : List Value := [.bool q.a.s, .int .i64 q.a.H.toInt, .int .i64 q.a.L.toInt, .string q.t, .int .i64 q.k, .int .i64 q.u]
def Ls.zero : Ls := ⟨⟨false, 0, 0⟩, ⟨#[]⟩, 0, 0⟩
def KLs : Kd Ls := ⟨6, Ls.cs, fun _ => rfl, fun x u h => by
  simp [Ls.cs] at h
  rcases h with rfl | rfl | rfl | rfl | rfl | rfl <;> rfl⟩
theorem Tryz.tyLs : GTy KLs (.agg #[.bool false, .int .i64 0, .int .i64 0, .string ⟨#[]⟩, .int .i64 0, .int .i64 0]) 56 Tryz.prog 40 71 := ⟨Tryz.underlying40, by kernel_rfl, rfl, by omega⟩

theorem rowLs {w : World} {a : Option Addr} {ps : List Ls} (h : RowG KLs w a ps) (j : Nat) (hj : j < ps.length) : ∃ p o q, a = some ⟨p, o, none⟩ ∧ p < w.heap.size ∧ ps[j]? = some q ∧
    w.cell? ⟨p, o + j * 6, none⟩ = some (.bool q.a.s) ∧ w.cell? ⟨p, o + j * 6 + 1, none⟩ = some (.int .i64 q.a.H.toInt) ∧ w.cell? ⟨p, o + j * 6 + 2, none⟩ = some (.int .i64 q.a.L.toInt) ∧ w.cell? ⟨p, o + j * 6 + 3, none⟩ = some (.string q.t) ∧ w.cell? ⟨p, o + j * 6 + 4, none⟩ = some (.int .i64 q.k) ∧ w.cell? ⟨p, o + j * 6 + 5, none⟩ = some (.int .i64 q.u) := by
  obtain ⟨p, o, q, ha, hp, hq, c⟩ := h j hj
  exact ⟨p, o, q, ha, hp, hq, c 0 _ rfl, c 1 _ rfl, c 2 _ rfl, c 3 _ rfl, c 4 _ rfl, c 5 _ rfl⟩
theorem rowLs0 {w : World} {g n cap B : Nat} {t : TypeId} {ps : List Ls} (h : OwnG KLs t w B (.slice (some ⟨g, 0, none⟩) n cap) ps) (j : Nat) (hj : j < ps.length) : ∃ q, g < w.heap.size ∧ ps[j]? = some q ∧
    w.cell? ⟨g, j * 6, none⟩ = some (.bool q.a.s) ∧ w.cell? ⟨g, j * 6 + 1, none⟩ = some (.int .i64 q.a.H.toInt) ∧ w.cell? ⟨g, j * 6 + 2, none⟩ = some (.int .i64 q.a.L.toInt) ∧ w.cell? ⟨g, j * 6 + 3, none⟩ = some (.string q.t) ∧ w.cell? ⟨g, j * 6 + 4, none⟩ = some (.int .i64 q.k) ∧ w.cell? ⟨g, j * 6 + 5, none⟩ = some (.int .i64 q.u) := by
  obtain ⟨p, o, q, ha, hp, hq, c0, c1, c2, c3, c4, c5⟩ := rowLs h.row j hj
  simp only [Option.some.injEq, Addr.mk.injEq, and_true] at ha
  obtain ⟨rfl, rfl⟩ := ha
  rw [Nat.zero_add] at c0 c1 c2 c3 c4 c5
  exact ⟨q, hp, hq, c0, c1, c2, c3, c4, c5⟩
theorem putLs {t : TypeId} {w : World} {B g n cap : Nat} {ps : List Ls} (h : OwnG KLs t w B (.slice (some ⟨g, 0, none⟩) n cap) ps) (hn : n = ps.length) (j : Nat) (hj : j < n) (q : Ls) :
    OwnG KLs t ((((((w.setCell ⟨g, j * 6, none⟩ (.bool q.a.s)).setCell ⟨g, j * 6 + 1, none⟩ (.int .i64 q.a.H.toInt)).setCell ⟨g, j * 6 + 2, none⟩ (.int .i64 q.a.L.toInt)).setCell ⟨g, j * 6 + 3, none⟩ (.string q.t)).setCell ⟨g, j * 6 + 4, none⟩ (.int .i64 q.k)).setCell ⟨g, j * 6 + 5, none⟩ (.int .i64 q.u)) B (.slice (some ⟨g, 0, none⟩) n cap) (ps.set j q) := h.put hn j hj q
theorem frzLs {t : TypeId} {w : World} {B g n cap : Nat} {ps : List Ls} (h : OwnG KLs t w B (.slice (some ⟨g, 0, none⟩) n cap) ps) (j : Nat) :
    w.frozen? ⟨g, j * 6, none⟩ = false ∧ w.frozen? ⟨g, j * 6 + 1, none⟩ = false ∧ w.frozen? ⟨g, j * 6 + 2, none⟩ = false ∧ w.frozen? ⟨g, j * 6 + 3, none⟩ = false ∧ w.frozen? ⟨g, j * 6 + 4, none⟩ = false ∧ w.frozen? ⟨g, j * 6 + 5, none⟩ = false := ⟨h.frozen _, h.frozen _, h.frozen _, h.frozen _, h.frozen _, h.frozen _⟩

set_option maxHeartbeats 1000000 in
theorem toLease_any (q : Ls) (w : World) :
    Calls Tryz.prog 69 #[.agg #[.bool q.a.s, .int .i64 q.a.H.toInt, .int .i64 q.a.L.toInt, .string q.t, .int .i64 q.k, .int .i64 q.u]] w fun e w' => e = .returned (.agg #[.bool q.a.s, .int .i64 q.a.H.toInt, .int .i64 q.a.L.toInt, .string q.t, .int .i64 q.k, .int .i64 q.u]) ∧ Below w.heap.size w w' := by
  go_enter Tryz.func69, Tryz.ntmps69
  go_wp2_with fail
  refine (toAddr_any q.a.s q.a.H.toInt q.a.L.toInt _).mono ?_
  rintro e w1 ⟨rfl, hb1⟩
  have hz1 := hb1.size
  try simp at hz1
  have f10 : w.heap.size < w1.heap.size := by omega
  have f11 : w.heap.size + 1 < w1.heap.size := by omega
  have f12 : w.heap.size + 2 < w1.heap.size := by omega
  refine olds_k (w.heap.size + 3) hb1 ?_ ?_
  · first | omega | (simp; omega) | (simp; done)
  intro hc1 hf1
  go_wp2_with fail
  refine bodyPost_ret (v := .agg #[.bool q.a.s, .int .i64 q.a.H.toInt, .int .i64 q.a.L.toInt, .string q.t, .int .i64 q.k, .int .i64 q.u]) (by simp [results, Tryz.results69, go_sem, hc1]) rfl ⟨rfl, ?_⟩
  repeat (first | with_reducible exact Below.refl _ _ | (with_reducible refine Below.drew ?_) | (with_reducible refine Below.alloc ?_ ?_ _; rotate_left; (focus (first | omega | (simp; omega) | (simp; done)))) | (with_reducible refine Below.setCell ?_ ?_ _; rotate_left; (focus (first | omega | (simp; omega) | (simp; done)))) | (with_reducible refine Below.trans ?_ (hb1.mono ?_); rotate_left; (focus (first | omega | (simp; omega) | (simp; done)))))

set_option maxHeartbeats 1000000 in
theorem eqLease_same (q : Ls) (w : World) :
    Calls Tryz.prog 85 #[.agg #[.bool q.a.s, .int .i64 q.a.H.toInt, .int .i64 q.a.L.toInt, .string q.t, .int .i64 q.k, .int .i64 q.u], .agg #[.bool q.a.s, .int .i64 q.a.H.toInt, .int .i64 q.a.L.toInt, .string q.t, .int .i64 q.k, .int .i64 q.u]] w fun e w' => e = .returned (.bool true) ∧ Below w.heap.size w w' := by
  go_enter Tryz.func85, Tryz.ntmps85
  go_wp2_with fail
  refine (eqA_same q.a.s q.a.H.toInt q.a.L.toInt _).mono ?_
  rintro e w1 ⟨rfl, hb1⟩
  have hz1 := hb1.size
  try simp at hz1
  have f10 : w.heap.size < w1.heap.size := by omega
  have f11 : w.heap.size + 1 < w1.heap.size := by omega
  refine olds_k (w.heap.size + 2) hb1 ?_ ?_
  · first | omega | (simp; omega) | (simp; done)
  intro hc1 hf1
  go_wp2_with fail
  go_ret
  refine ⟨rfl, ?_⟩
  repeat (first | with_reducible exact Below.refl _ _ | (with_reducible refine Below.drew ?_) | (with_reducible refine Below.alloc ?_ ?_ _; rotate_left; (focus (first | omega | (simp; omega) | (simp; done)))) | (with_reducible refine Below.setCell ?_ ?_ _; rotate_left; (focus (first | omega | (simp; omega) | (simp; done)))) | (with_reducible refine Below.trans ?_ (hb1.mono ?_); rotate_left; (focus (first | omega | (simp; omega) | (simp; done)))))

set_option maxHeartbeats 1000000 in
theorem toLeaseS_any (a : Option Addr) (n cap : Nat) (ps : List Ls) (w : World) (hn : n = ps.length) (hB : RowG KLs w a ps) (hl : n ≤ 1048576) :
    Calls Tryz.prog 47 #[.slice a n cap] w fun e w' => ∃ g, e = .returned (.slice (some ⟨g, 0, none⟩) n n) ∧ OwnG KLs 71 w' w.heap.size (.slice (some ⟨g, 0, none⟩) n n) ps ∧ Below w.heap.size w w' := by
  obtain ⟨i0, hi, hz0, hz1, hz2⟩ := info_parts Tryz.tyLs.2.1
  have HB := hidP hB
  have HN := hidP hn
  clear hB hn
  go_enter Tryz.func47, Tryz.ntmps47
  go_wp2_with (refine wpList_make_full _ rfl (.tmp 6) (.tmp 6) 40 rfl w.heap.size 71 i0 _ 6 Tryz.tyLs.1 hi hz0 hz1 .i64 .i64 n n n rfl rfl rfl rfl (by rw [hz2]; omega) (by unfold maxLen; omega) (Nat.le_refl _) ?_; intro w1 hown hgrow)
  have HO : Hid (OwnG KLs 71 w1 w.heap.size (.slice (some ⟨w.heap.size, 0, none⟩) n n) (ps.take 0 ++ List.replicate (ps.length - 0) Ls.zero)) := by
    have hm := made_gen KLs Ls.zero (by show 0 < 6; omega) (.agg #[.bool false, .int .i64 0, .int .i64 0, .string ⟨#[]⟩, .int .i64 0, .int .i64 0]) rfl n
    rw [show n * 6 = n * KLs.k from rfl, hm] at hown
    refine hidP ?_
    unfold OwnG
    rw [Nat.sub_zero, List.take_zero, List.nil_append, List.length_replicate, ← HN.out]; exact hown
  have HW : Hid (Below w.heap.size w w1) := (Below.refl _ w).grown hgrow (Nat.le_refl _) (fun k hk => by cases hk)
  clear hown hgrow
  go_loopw [4] (fun t4 wr => ∃ k : Nat, k ≤ n ∧ t4 = .int .i64 k ∧ OwnG KLs 71 wr w.heap.size (.slice (some ⟨w.heap.size, 0, none⟩) n n) (ps.take k ++ List.replicate (ps.length - k) Ls.zero) ∧ Below w.heap.size w wr) (fun t4 _ => n - (intOf t4).toNat)
  case atStart => exact ⟨0, Nat.zero_le _, rfl, HO.out, HW.out⟩
  case round =>
    obtain ⟨k, hk, rfl, hown, hbel⟩ := hrel
    by_cases hlt : k < n
    · obtain ⟨p, o, q, rfl, hp, hq, c0, c1, c2, c3, c4, c5⟩ := rowLs HB.out k (by rw [← HN.out]; exact hlt)
      have d0 := (hbel.cell hp).trans c0
      have d1 := (hbel.cell hp).trans c1
      have d2 := (hbel.cell hp).trans c2
      have d3 := (hbel.cell hp).trans c3
      have d4 := (hbel.cell hp).trans c4
      have d5 := (hbel.cell hp).trans c5
      have HOw := hidP hown
      have HBel := hidP hbel
      have HQ := hidP hq
      clear hown hbel c0 c1 c2 c3 c4 c5 hq HO HW
      go_wp2_with fail
      refine (toLease_any q _).mono ?_
      rintro e w2 ⟨rfl, hb2⟩
      have ho2 := HOw.out.later hb2
      have hlen : n = (ps.take k ++ List.replicate (ps.length - k) Ls.zero).length := by rw [List.length_append, List.length_take, List.length_replicate, HN.out]; have := HN.out; omega
      obtain ⟨f0, f1, f2, f3, f4, f5⟩ := frzLs ho2 k
      have hput' := putLs ho2 hlen k hlt q
      rw [copy_stepG Ls.zero ps k q (by rw [← HN.out]; exact hlt) HQ.out] at hput'
      have HP := hidP hput'
      obtain ⟨q', hp', _, e0, e1, e2, e3, e4, e5⟩ := rowLs0 ho2 k (by rw [← hlen]; exact hlt)
      have HBel2 := hidP (HBel.out.trans (hb2.mono HBel.out.size))
      clear hput' ho2 hb2 HBel HOw d0 d1 d2 d3 d4 d5 hlen
      go_wp2_with fail
      go_roundw
      case rel => exact ⟨k + 1, by omega, by go_num, HP.out, (((((HBel2.out.setCell (Nat.le_refl _) _).setCell (Nat.le_refl _) _).setCell (Nat.le_refl _) _).setCell (Nat.le_refl _) _).setCell (Nat.le_refl _) _).setCell (Nat.le_refl _) _⟩
      case measure => simp [intOf]; omega
    · have hkn : k = n := by omega
      subst hkn
      have HO2 : Hid (OwnG KLs 71 wr w.heap.size (.slice (some ⟨w.heap.size, 0, none⟩) k k) ps) := by
        have e := HN.out
        rw [e, List.take_length, Nat.sub_self, List.replicate_zero, List.append_nil] at hown
        rw [← e] at hown
        exact hidP hown
      have HBel : Hid (Below w.heap.size w wr) := hbel
      clear hown hbel HO HW
      go_wp2
      go_ret
      exact ⟨_, rfl, HO2.out, HBel.out⟩

set_option maxHeartbeats 1000000 in
theorem eqLeaseS_same (a b : Option Addr) (n c d : Nat) (ps : List Ls) (w : World) (hn : n = ps.length) (ha : RowG KLs w a ps) (hb : RowG KLs w b ps) (hl : n ≤ 9000000000) :
    Calls Tryz.prog 57 #[.slice a n c, .slice b n d] w fun e w' => e = .returned (.bool true) ∧ Below w.heap.size w w' := by
  have HA := hidP ha
  have HB := hidP hb
  have HN := hidP hn
  clear ha hb hn
  go_enter Tryz.func57, Tryz.ntmps57
  go_wp2
  go_loopw [5] (fun t5 wr => ∃ k : Nat, k ≤ n ∧ t5 = .int .i64 k ∧ Below w.heap.size w wr) (fun t5 _ => n - (intOf t5).toNat)
  case atStart => exact ⟨0, Nat.zero_le _, rfl, Below.refl _ _⟩
  case round =>
    obtain ⟨k, hk, rfl, hbel⟩ := hrel
    have HW := hidP hbel
    by_cases hlt : k < n
    · obtain ⟨p, o, q, rfl, hp, hq, c0, c1, c2, c3, c4, c5⟩ := rowLs HA.out k (by rw [← HN.out]; exact hlt)
      obtain ⟨p', o', q', rfl, hp', hq', d0, d1, d2, d3, d4, d5⟩ := rowLs HB.out k (by rw [← HN.out]; exact hlt)
      rw [hq] at hq'
      cases hq'
      have c0' := (hbel.cell hp).trans c0
      have c1' := (hbel.cell hp).trans c1
      have c2' := (hbel.cell hp).trans c2
      have c3' := (hbel.cell hp).trans c3
      have c4' := (hbel.cell hp).trans c4
      have c5' := (hbel.cell hp).trans c5
      have d0' := (hbel.cell hp').trans d0
      have d1' := (hbel.cell hp').trans d1
      have d2' := (hbel.cell hp').trans d2
      have d3' := (hbel.cell hp').trans d3
      have d4' := (hbel.cell hp').trans d4
      have d5' := (hbel.cell hp').trans d5
      clear c0 c1 c2 c3 c4 c5 d0 d1 d2 d3 d4 d5 hq hbel
      go_wp2_with fail
      go_region_with (first | (go_at_call 85; refine (eqLease_same q _).mono ?_; rintro e w2 ⟨rfl, hb2⟩))
      all_goals
        have HW2 := hidP (HW.out.drew.trans (hb2.mono HW.out.drew.size))
        clear hb2
        go_wp2
        go_roundw
        case rel => exact ⟨k + 1, by omega, by go_num, HW2.out⟩
        case measure => simp [intOf]; omega
    · have hkn : k = n := by omega
      subst hkn
      clear hbel
      go_wp2
      go_ret
      exact ⟨rfl, HW.out⟩

theorem Tryz.cellsLs : Tryz.prog.cellsOf 117 = 6 := by kernel_rfl
theorem wfA {x : Int} (h : (Lit.int .i64 x).wf = true) : (BitVec.ofInt 64 x).toInt = x := by
  have h2 : -9223372036854775808 ≤ x ∧ x ≤ 9223372036854775807 := wf_bdC h
  rw [BitVec.toInt_ofInt]
  exact Int.bmod_eq_of_le (by omega) (by omega)
theorem adOf {H : Type} {enc : TypeId × Value → H} {W : World} {fuel : Nat} {c0 c1 c2 : Value} {x : DataW H × List MemPlace}
    (h : DataW.trod enc Tryz.prog W 0 (fun _ => true) true fuel 52 [c0, c1, c2] = some x) : ∃ a : Ad, c0 = .bool a.s ∧ c1 = .int .i64 a.H.toInt ∧ c2 = .int .i64 a.L.toInt := by
  obtain ⟨z0, z1, z2, n, hx, _, h0, h1, h2⟩ := trod_struct3 Tryz.underlying52 h
  have kb : Tryz.prog.cellsOf 4 = 1 := by kernel_rfl
  have ki : Tryz.prog.cellsOf 3 = 1 := by kernel_rfl
  simp [kb, ki] at h0 h1 h2
  obtain ⟨b, e0, _⟩ := DataW.trod_bool Tryz.underlying4 h0
  obtain ⟨y, e1, _, wy⟩ := DataW.trod_int Tryz.underlying3 h1
  obtain ⟨y2, e2, _, wy2⟩ := DataW.trod_int Tryz.underlying3 h2
  simp at e0 e1 e2
  subst e0 e1 e2
  exact ⟨⟨b, BitVec.ofInt 64 y, BitVec.ofInt 64 y2⟩, rfl, by rw [wfA wy], by rw [wfA wy2]⟩
/-- One out of its cells. -/
theorem ofLs {H : Type} {enc : TypeId × Value → H} {W : World} {fuel : Nat} {cs : List Value} {x : DataW H × List MemPlace} (hl : cs.length = 6)
    (h : DataW.trod enc Tryz.prog W 0 (fun _ => true) true fuel 117 cs = some x) : ∃ q : Ls, cs = q.cs ∧ q.t.size ≤ 9223372036854775807 := by
  match cs, hl with
  | [c0, c1, c2, c3, c4, c5], _ =>
    obtain ⟨z0, z1, z2, z3, n, hx, _, h0, h1, h2, h3⟩ := trod_struct4 Tryz.underlying117 h
    have k0 : Tryz.prog.cellsOf 52 = 3 := by kernel_rfl
    have ks : Tryz.prog.cellsOf 9 = 1 := by kernel_rfl
    have ki : Tryz.prog.cellsOf 3 = 1 := by kernel_rfl
    simp [k0, ks, ki] at h0 h1 h2 h3
    obtain ⟨a, rfl, rfl, rfl⟩ := adOf h0
    obtain ⟨y, e1, _, wy⟩ := DataW.trod_string Tryz.underlying9 h1
    obtain ⟨k, e2, _, wk⟩ := DataW.trod_int Tryz.underlying3 h2
    obtain ⟨u, e3, _, wu⟩ := DataW.trod_int Tryz.underlying3 h3
    simp at e1 e2 e3
    subst e1 e2 e3
    exact ⟨⟨a, y, k, u⟩, rfl, by unfold maxLen at wy; show y.size ≤ _; omega⟩


set_option maxRecDepth 100000 in
/-- The things out of the reading of a row of them. -/
theorem openLs {H : Type} {enc : TypeId × Value → H} {W : World} {a : Option Addr} {len cap : Nat} {d : DataW H} {p : List MemPlace}
    (h : DataW.Trod enc Tryz.prog W 0 (fun _ => true) true 26 (.slice a len cap) d p) : ∃ ps : List Ls, ps.length = len ∧ len ≤ 9223372036854775807 ∧ RowG KLs W a ps ∧ ∀ q ∈ ps, q.t.size ≤ 9223372036854775807 := by
  obtain ⟨fuel, hf⟩ := h
  rcases open_slice Tryz.underlying26 hf with ⟨hcs, _⟩ | ⟨a', len', cap', m, n, D, Plc, hcs, _, hl, hmx, hm, _, hV⟩
  · simp [Value.cells] at hcs
    obtain ⟨rfl, rfl, rfl⟩ := hcs
    exact ⟨[], rfl, by omega, RowG.nil _ _ _, fun _ h => by cases h⟩
  · simp [Value.cells] at hcs
    obtain ⟨rfl, rfl, rfl⟩ := hcs
    suffices h9 : ∃ ps : List Ls, ps.length = len ∧ RowG KLs W (some a') ps ∧ ∀ q ∈ ps, q.t.size ≤ 9223372036854775807 by
      obtain ⟨ps, h1, h2⟩ := h9
      exact ⟨ps, h1, by unfold maxLen at hmx; omega, h2⟩
    refine rowsG_of2 (E := fun q : Ls => q.t.size ≤ 9223372036854775807) _ _ fun j hj => ?_
    simp at hm
    obtain ⟨cs', h1, h2⟩ := hV j (by omega)
    rw [Tryz.cellsLs] at h1
    obtain ⟨_, hlen, hcell⟩ := World.cells?_some h1
    obtain ⟨q, rfl, hq9⟩ := ofLs hlen h2
    obtain ⟨p', o', sp⟩ := a'
    cases sp with
    | some r =>
      exfalso
      obtain ⟨cs0, g1, g2⟩ := hV 0 (by omega)
      rw [Tryz.cellsLs] at g1
      obtain ⟨_, glen, gcell⟩ := World.cells?_some g1
      obtain ⟨q0, rfl, _⟩ := ofLs glen g2
      have h0 := gcell 0 (by omega)
      rw [Nat.zero_mul, show Addr.add (Addr.add ⟨p', o', some r⟩ 0) 0 = ⟨p', o', some r⟩ from rfl] at h0
      unfold World.cell? at h0
      split at h0
      · simp [Ls.cs] at h0
      · cases h0
    | none =>
      have ea : ∀ i k : Nat, Addr.add (Addr.add ⟨p', o', none⟩ i) k = ⟨p', o' + i + k, none⟩ := fun i k => by
        have ea1 : ∀ (o k : Nat), Addr.add ⟨p', o, none⟩ k = ⟨p', o + k, none⟩ := fun o k => by unfold Addr.add; split <;> simp_all
        rw [ea1, ea1]
      have hall : ∀ i v, (KLs.cs q)[i]? = some v → W.cell? ⟨p', o' + j * KLs.k + i, none⟩ = some v := fun i v hv => by
        have hi : i < 6 := by
          rcases Nat.lt_or_ge i (KLs.cs q).length with h1 | h1
          · exact h1
          · rw [List.getElem?_eq_none h1] at hv; cases hv
        have e0 := hcell i hi
        rw [ea] at e0
        exact e0.trans hv
      exact ⟨p', o', q, rfl, World.block_lt_of_cell? W _ (hall 0 _ rfl), hall, hq9⟩

end Go.Proofs.YtplocbpngikohaaGreat
namespace Go.Proofs.YtplocbpngikohaaGreat
open Go.RowKit

def okLs (T N : Int) (x : Ls) : Bool := (x.a.ok && ownB x.t) && ((decide (1 ≤ x.k) && decide (x.k ≤ T)) && (decide (N < x.u) && decide (x.u ≤ 1000000000)))
def ascA (r : Option Ad) (a : Ad) : Bool := match r with | none => true | some b => decide (b.key < a.key)
/-- As the program asks it. -/
def leasesF (T N : Int) : Option Ad → List Ls → Bool
  | _, [] => true
  | r, x :: t => (okLs T N x && ascA r x.a) && leasesF T N (some x.a) t
def tokB (ls : List Ls) : Bool := decide ((ls.map (·.k)).Nodup)
def hasTok (k : Int) (ls : List Ls) : Bool := ls.any fun y => y.k == k
/-- As the specification asks it. -/
def leasesS (T N : Int) : List Ls → List Ls → Bool
  | _, [] => true
  | pre, x :: t => (okLs T N x && ascA (pre.getLast?.map (·.a)) x.a) && (!hasTok x.k pre && leasesS T N (pre ++ [x]) t)
def bkB (ls : List Ls) (T N : Int) : Bool := (decide (ls.length ≤ 80) && ((decide (0 ≤ T) && decide (T ≤ 1000000000)) && (decide (0 ≤ N) && decide (N ≤ 1000000000)))) && (leasesF T N none ls && tokB ls)

theorem hasTok_not {k : Int} {ls : List Ls} : hasTok k ls = false ↔ k ∉ ls.map (·.k) := by
  unfold hasTok
  rw [List.any_eq_false]
  constructor
  · intro h hm
    obtain ⟨y, hy, e⟩ := List.mem_map.1 hm
    exact h y hy (by simp [e])
  · intro h y hy hc
    exact h (List.mem_map.2 ⟨y, hy, by simpa using hc⟩)
theorem leases_tail (T N : Int) : ∀ (t pre : List Ls), (pre.map (·.k)).Nodup → leasesS T N pre t = (leasesF T N (pre.getLast?.map (·.a)) t && tokB (pre ++ t))
  | [], pre, hp => by
      unfold leasesS leasesF tokB
      rw [List.append_nil, decide_eq_true hp]; rfl
  | x :: t, pre, hp => by
      unfold leasesS leasesF
      cases hx : (okLs T N x && ascA (pre.getLast?.map (·.a)) x.a)
      · rfl
      · cases ht : hasTok x.k pre
        · have hn := hasTok_not.1 ht
          have hp' : ((pre ++ [x]).map (·.k)).Nodup := by
            rw [List.map_append, List.nodup_append]
            refine ⟨hp, by simp, fun a ha b hb => ?_⟩
            simp at hb
            subst hb
            intro e
            exact hn (e ▸ ha)
          rw [leases_tail T N t (pre ++ [x]) hp', List.getLast?_append, List.append_assoc]
          simp
        · have hd : tokB (pre ++ x :: t) = false := by
            unfold tokB
            apply decide_eq_false
            intro h
            rw [List.map_append, List.nodup_append] at h
            have hm : x.k ∈ pre.map (·.k) := Classical.byContradiction fun hc => by rw [hasTok_not.2 hc] at ht; cases ht
            exact h.2.2 _ hm _ (by simp) rfl
          rw [hd]; simp
theorem leases_same (T N : Int) (ls : List Ls) : leasesS T N [] ls = (leasesF T N none ls && tokB ls) := leases_tail T N ls [] (by simp)

/-- What stands ahead of place k. -/
def prvL (ps : List Ls) : Nat → Option Ad
  | 0 => none
  | j + 1 => (ps[j]?).map (·.a)
theorem prvL_next {ps : List Ls} {k : Nat} {q : Ls} (h : ps[k]? = some q) : prvL ps (k + 1) = some q.a := by show (ps[k]?).map _ = _; rw [h]; rfl
theorem prvL_last (ps : List Ls) : ∀ k, k ≤ ps.length → ((ps.take k).getLast?.map (·.a)) = prvL ps k
  | 0, _ => by simp [prvL]
  | k + 1, h => by
      have e : ps[k]? = some ps[k] := List.getElem?_eq_getElem (by omega)
      rw [List.take_add_one, prvL_next e, e, Option.toList_some, List.getLast?_append, List.getLast?_singleton, Option.some_or]
      rfl
theorem take_at {α : Type} {ps : List α} {k : Nat} {q : α} (h : ps[k]? = some q) : ps.take k ++ [q] = ps.take (k + 1) := by
  rw [List.take_add_one, h]; rfl
theorem okLs_ok {T N : Int} {x : Ls} (h : okLs T N x = true) : x.a.ok = true := by
  unfold okLs at h
  simp only [Bool.and_eq_true] at h
  exact h.1.1

theorem compact_nodup (zs : List Int) : ((Lib.compact (zs.mergeSort fun x y => decide (x ≤ y))).length = zs.length) ↔ zs.Nodup := by
  have hp : (zs.mergeSort fun x y => decide (x ≤ y)).Perm zs := List.mergeSort_perm zs _
  have hs : (zs.mergeSort fun x y => decide (x ≤ y)).Pairwise (fun x y => decide (x ≤ y) = true) := List.pairwise_mergeSort (fun a b c h1 h2 => by simp at *; omega) (fun a b => by simp; omega) zs
  rw [← hp.nodup_iff, ← hp.length_eq]
  generalize zs.mergeSort (fun x y => decide (x ≤ y)) = S at hs
  have hlen : (Lib.compact S).length = ((List.range S.length).filter (Lib.keeps S.toArray)).length := by
    unfold Lib.compact Lib.compactUpTo
    rw [List.length_map]
  have hkp : ∀ j, j + 1 < S.length → (Lib.keeps S.toArray (j + 1) = true ↔ S[j]? ≠ S[j + 1]?) := by
    intro j hj
    have e1 : S[j]? = some S[j] := List.getElem?_eq_getElem (by omega)
    have e2 : S[j + 1]? = some S[j + 1] := List.getElem?_eq_getElem hj
    rw [e1, e2]
    have g1 : S.toArray[j]! = S[j] := by rw [getElem!_pos _ _ (by simp; omega)]; simp
    have g2 : S.toArray[j + 1]! = S[j + 1] := by rw [getElem!_pos _ _ (by simp; omega)]; simp
    unfold Lib.keeps
    rw [Nat.add_sub_cancel, g1, g2, decide_eq_true_eq]
    constructor
    · rintro (h | h)
      · omega
      · intro e; exact h (Option.some.inj e).symm
    · intro h
      exact Or.inr fun e => h (by rw [e])
  constructor
  · intro h
    rw [hlen] at h
    have hall : ∀ j, j < S.length → Lib.keeps S.toArray j = true := by
      intro j hj
      have h2 : ((List.range S.length).filter (Lib.keeps S.toArray)).length = (List.range S.length).length := by rw [h, List.length_range]
      exact (List.length_filter_eq_length_iff.1 h2) j (List.mem_range.2 hj)
    rw [List.nodup_iff_pairwise_ne, List.pairwise_iff_getElem]
    intro i j hi hj hij
    have hs' := List.pairwise_iff_getElem.1 hs
    obtain ⟨J, rfl⟩ : ∃ J, j = J + 1 := ⟨j - 1, by omega⟩
    have n1 := (hkp J hj).1 (hall _ hj)
    rw [List.getElem?_eq_getElem (by omega : J < S.length), List.getElem?_eq_getElem hj] at n1
    have n2 : S[J] ≠ S[J + 1] := fun e => n1 (by rw [e])
    have l1 := hs' J (J + 1) (by omega) hj (by omega)
    simp at l1
    by_cases h3 : i = J
    · subst h3; exact n2
    · have l2 := hs' i J hi (by omega) (by omega)
      simp at l2
      omega
  · intro h
    rw [Lib.compact_all S]
    intro j hj
    cases j with
    | zero => simp [Lib.keeps]
    | succ J =>
      rw [hkp J hj, List.getElem?_eq_getElem (by omega : J < S.length), List.getElem?_eq_getElem hj]
      have := (List.pairwise_iff_getElem.1 (List.nodup_iff_pairwise_ne.1 h)) J (J + 1) (by omega) hj (by omega)
      simpa using this
theorem tok_compact (ls : List Ls) (n : Nat) (hn : n = ls.length) : (((Lib.compact ((ls.map (·.k)).mergeSort fun x y => decide (x ≤ y))).length : Int) == (n : Int)) = tokB ls := by
  have h := compact_nodup (ls.map (·.k))
  rw [List.length_map, ← hn] at h
  unfold tokB
  by_cases hd : (ls.map (·.k)).Nodup
  · rw [decide_eq_true hd, h.2 hd]; simp
  · rw [decide_eq_false hd, beq_eq_false_iff_ne]
    intro e
    exact hd (h.1 (by omega))

end Go.Proofs.YtplocbpngikohaaGreat
namespace Go.Proofs.YtplocbpngikohaaGreat
open Go.ChangeShapes Go.WideShapes Go.ChangeAt Go.RowKit Go.Joins Go.Deep

/-- How many bytes the owners have. -/
def sumL : List Ls → Nat
  | [] => 0
  | q :: t => q.t.size + sumL t
theorem sumL_app : ∀ xs ys : List Ls, sumL (xs ++ ys) = sumL xs + sumL ys
  | [], ys => by simp [sumL]
  | q :: t, ys => by simp [sumL, sumL_app t ys]; omega
theorem sumL_next {bs : List Ls} {k : Nat} {q : Ls} (h : bs[k]? = some q) : sumL (bs.take (k + 1)) = sumL (bs.take k) + q.t.size := by
  rw [List.take_add_one, h, sumL_app]; simp [sumL]
theorem sumL_le (bs : List Ls) (k : Nat) : sumL (bs.take k) ≤ sumL bs := by
  conv => rhs; rw [← List.take_append_drop k bs, sumL_app]
  omega


set_option maxHeartbeats 400000 in
theorem szLease_any (q : Ls) (l : Int) (h0 : 0 ≤ l) (h1 : l ≤ 1048576) (h9 : q.t.size ≤ 9223372036854775807) (w : World) :
    Calls Tryz.prog 60 #[.agg #[.bool q.a.s, .int .i64 q.a.H.toInt, .int .i64 q.a.L.toInt, .string q.t, .int .i64 q.k, .int .i64 q.u], .int .i64 l] w fun e w' => e = .returned (.int .i64 (szO l q.t.size)) ∧ Below w.heap.size w w' := by
  by_cases hd : l - (q.t.size : Int) < 0
  · rw [szO_yes hd]
    go_enter Tryz.func60, Tryz.ntmps60
    go_wp2
    go_ret
    exact ⟨rfl, (Below.refl _ _).alloc (Nat.le_refl _) _⟩
  · rw [szO_no hd]
    have hd2 : decide (l - (q.t.size : Int) < 0) = false := decide_eq_false hd
    go_enter Tryz.func60, Tryz.ntmps60
    go_wp2
    go_ret
    exact ⟨rfl, (Below.refl _ _).alloc (Nat.le_refl _) _⟩

set_option maxHeartbeats 1000000 in
theorem szLeaseS_any (a : Option Addr) (n cap : Nat) (bs : List Ls) (l : Int) (h0 : 0 ≤ l) (h1 : l ≤ 1048576) (w : World) (hn : n = bs.length) (hB : RowG KLs w a bs) (h9 : n ≤ 9223372036854775807) (hst : ∀ q ∈ bs, q.t.size ≤ 9223372036854775807) :
    Calls Tryz.prog 33 #[.slice a n cap, .int .i64 l] w fun e w' => e = .returned (.int .i64 (szB n (sumL bs) l)) ∧ Below w.heap.size w w' := by
  have HB := hidP hB
  have HN := hidP hn
  have HST := hidP hst
  clear hB hn hst
  by_cases hnl : l < (n : Int)
  · rw [szB_no (by omega)]
    have d1 : decide (l - (n : Int) < 0) = true := decide_eq_true (by omega)
    go_enter Tryz.func33, Tryz.ntmps33
    go_wp2
    go_ret
    exact ⟨rfl, Below.refl _ _⟩
  · have d1 : decide (l - (n : Int) < 0) = false := decide_eq_false (by omega)
    have d2 : ¬ (l - (n : Int) < 0) := by omega
    go_enter Tryz.func33, Tryz.ntmps33
    go_wp2_with fail
    go_loopw [1, 5] (fun t1 t5 wr => ∃ (k : Nat) (z : Int), k ≤ n ∧ t5 = .int .i64 k ∧ t1 = .int .i64 z ∧ z = l - n - sumL (bs.take k) ∧ 0 ≤ z ∧ Below w.heap.size w wr) (fun _ t5 _ => n - (intOf t5).toNat)
    case atStart => exact ⟨0, l - n, Nat.zero_le _, rfl, rfl, by simp [sumL], by omega, Below.refl _ _⟩
    case round =>
      obtain ⟨k, z, hk, rfl, rfl, hz, hz0, hbel⟩ := hrel
      by_cases hlt : k < n
      · obtain ⟨p, o, q, rfl, hp, hq, c0, c1, c2, c3, c4, c5⟩ := rowLs HB.out k (by rw [← HN.out]; exact hlt)
        have d0 := (hbel.cell hp).trans c0
        have d1 := (hbel.cell hp).trans c1
        have d2 := (hbel.cell hp).trans c2
        have d3 := (hbel.cell hp).trans c3
        have d4 := (hbel.cell hp).trans c4
        have d5 := (hbel.cell hp).trans c5
        have HBel := hidP hbel
        have HNx := hidP (sumL_next hq)
        have HLe := hidP (sumL_le bs (k + 1))
        have hz1 : z ≤ 1048576 := by omega
        have HZ := hidP hz
        have HS := hidP (szLease_any q z hz0 hz1 (HST.out q (List.mem_of_getElem? hq)))
        clear c0 c1 c2 c3 c4 c5 hq hbel hz
        by_cases hd : z - (q.t.size : Int) < 0
        · rw [szO_yes hd] at HS
          have HF : Hid (¬ ((n : Int) + (sumL bs : Int) ≤ l)) := hidP (by have := HZ.out; have := HNx.out; have := HLe.out; omega)
          go_wp2_with fail
          refine (HS.out _).mono ?_
          rintro e w2 ⟨rfl, hb2⟩
          have HB2 := hidP (HBel.out.trans (hb2.mono HBel.out.size))
          clear hb2 HBel d0 d1 d2 d3 d4 d5
          go_wp2_with fail
          go_ret
          exact ⟨ret_i (szB_no (by have := HF.out; omega)).symm, HB2.out⟩
        · rw [szO_no hd] at HS
          have hd2 : decide (z - (q.t.size : Int) < 0) = false := decide_eq_false hd
          go_wp2_with fail
          refine (HS.out _).mono ?_
          rintro e w2 ⟨rfl, hb2⟩
          have HB2 := hidP (HBel.out.trans (hb2.mono HBel.out.size))
          clear hb2 HBel d0 d1 d2 d3 d4 d5
          go_wp2_with fail
          go_roundw
          case rel => exact ⟨k + 1, z - (q.t.size : Int), by omega, by go_num, rfl, by have := HZ.out; have := HNx.out; omega, by omega, HB2.out⟩
          case measure => simp [intOf]; omega
      · have hkn : k = n := by omega
        have HF : Hid ((n : Int) + (sumL bs : Int) ≤ l ∧ z = l - n - sumL bs) := by
          rw [List.take_of_length_le (by have := HN.out; omega)] at hz
          exact hidP ⟨by omega, hz⟩
        have HBel := hidP hbel
        clear hbel hz
        go_wp2_with fail
        go_ret
        exact ⟨ret_i (by rw [szB_yes HF.out.1, ← HF.out.2]), HBel.out⟩


/-- How much of a law's room a book takes. -/
def totB (ls : List Ls) : Int := ls.length + sumL ls
theorem box3B (w : World) (t : TypeId) (u v x : Value) : (w.alloc (.cells #[u, v, x] t)).cell? ⟨w.heap.size, 0, none⟩ = some u ∧ (w.alloc (.cells #[u, v, x] t)).cell? ⟨w.heap.size, 1, none⟩ = some v ∧ (w.alloc (.cells #[u, v, x] t)).cell? ⟨w.heap.size, 2, none⟩ = some x := ⟨by simp [go_sem], by simp [go_sem], by simp [go_sem]⟩

set_option maxHeartbeats 1000000 in
theorem szBook_at (a : Option Addr) (n c : Nat) (T N : Int) (ls : List Ls) (l : Int) (h0 : 0 ≤ l) (h1 : l ≤ 1048576) (w : World) (hn : n = ls.length) (hP : RowG KLs w a ls) (h9 : n ≤ 9223372036854775807) (hst : ∀ q ∈ ls, q.t.size ≤ 9223372036854775807) :
    Calls Tryz.prog 14 #[.agg #[.slice a n c, .int .i64 T, .int .i64 N], .int .i64 l] w fun e w' => e = .returned (.int .i64 (szB ls.length (sumL ls) l)) ∧ Below w.heap.size w w' := by
  rw [← hn]
  have HS := hidP (fun W h => szLeaseS_any a n c ls l h0 h1 W hn (hP.later h) h9 hst)
  clear hP hn hst
  by_cases ht : (n : Int) + (sumL ls : Int) ≤ l
  · rw [szB_yes ht] at HS
    rw [szB_yes ht]
    have hz2 : decide (l - (n : Int) - (sumL ls : Int) < 0) = false := decide_eq_false (by omega)
    generalize he : (l - (n : Int) - (sumL ls : Int)) = z at *
    have hz3 : ¬ z < 0 := by omega
    have HE := hidP he
    clear he
    go_enter Tryz.func14, Tryz.ntmps14
    go_wp2_with fail
    refine (HS.out _ (alloc_below w _)).mono ?_
    rintro e w2 ⟨rfl, hb2⟩
    have HB2 := hidP hb2
    clear hb2
    go_wp2_with fail
    go_ret
    exact ⟨ret_i (by have := HE.out; omega), (alloc_below w _).trans (HB2.out.mono (alloc_below w _).size)⟩
  · rw [szB_no ht] at HS
    rw [szB_no ht]
    go_enter Tryz.func14, Tryz.ntmps14
    go_wp2_with fail
    refine (HS.out _ (alloc_below w _)).mono ?_
    rintro e w2 ⟨rfl, hb2⟩
    have HB2 := hidP hb2
    clear hb2
    go_wp2_with fail
    go_ret
    exact ⟨rfl, (alloc_below w _).trans (HB2.out.mono (alloc_below w _).size)⟩

set_option maxHeartbeats 1000000 in
theorem toBook_any (a : Option Addr) (n c : Nat) (T N : Int) (ls : List Ls) (w : World) (hn : n = ls.length) (hP : RowG KLs w a ls) (hl : n ≤ 1048576) :
    Calls Tryz.prog 21 #[.agg #[.slice a n c, .int .i64 T, .int .i64 N]] w fun e w' => ∃ g, e = .returned (.agg #[.slice (some ⟨g, 0, none⟩) n n, .int .i64 T, .int .i64 N]) ∧ OwnG KLs 71 w' w.heap.size (.slice (some ⟨g, 0, none⟩) n n) ls ∧ Below w.heap.size w w' := by
  have HTP := hidP (fun W h => toLeaseS_any a n c ls W hn (hP.later h) hl)
  clear hP hn
  go_enter Tryz.func21, Tryz.ntmps21
  go_wp2_with fail
  refine (HTP.out _ ?_).mono ?_
  · repeat (first | with_reducible exact Below.refl _ _ | (with_reducible refine Below.drew ?_) | (with_reducible refine Below.alloc ?_ ?_ _; rotate_left; (focus (first | omega | (simp; omega) | (simp; done)))) | (with_reducible refine Below.setCell ?_ ?_ _; rotate_left; (focus (first | omega | (simp; omega) | (simp; done)))))
  rintro e w1 ⟨g, rfl, og, hb1⟩
  have hz1 := hb1.size
  try simp at hz1
  have hgl := OwnG.lt og g rfl
  try simp at hgl
  have f10 : w.heap.size < w1.heap.size := by omega
  have f11 : w.heap.size + 1 < w1.heap.size := by omega
  have f12 : w.heap.size + 2 < w1.heap.size := by omega
  refine olds_k (w.heap.size + 3) hb1 ?_ ?_
  · first | omega | (simp; omega) | (simp; done)
  intro hc1 hf1
  have OG := hidP og
  clear og
  go_wp2_with fail
  refine bodyPost_ret (v := .agg #[.slice (some ⟨g, 0, none⟩) n n, .int .i64 T, .int .i64 N]) (by simp [results, Tryz.results21, go_sem, hc1]) rfl ⟨g, rfl, ?_, ?_⟩
  · have ne : ∀ x : Nat, x < w.heap.size + 3 → ∀ k, (Value.slice (some ⟨g, 0, none⟩) n n).ownBlock = some k → some x ≠ some k := fun x hx k hk e => by simp [Value.ownBlock] at hk e; omega
    refine OwnG.mono (B := w.heap.size + 3) ?_ (by omega)
    iterate 6 (with_reducible refine OwnG.grown ?_ (grown_cellG _ _ _ _) ?_; rotate_left; (focus (exact ne _ (by omega))))
    with_reducible exact OG.out.mono (by first | (simp; done) | (simp; omega))
  · repeat (first | with_reducible exact Below.refl _ _ | (with_reducible refine Below.drew ?_) | (with_reducible refine Below.alloc ?_ ?_ _; rotate_left; (focus (first | omega | (simp; omega) | (simp; done)))) | (with_reducible refine Below.setCell ?_ ?_ _; rotate_left; (focus (first | omega | (simp; omega) | (simp; done)))) | (with_reducible refine Below.trans ?_ (hb1.mono ?_); rotate_left; (focus (first | omega | (simp; omega) | (simp; done)))))

set_option maxHeartbeats 1000000 in
theorem eqBook_same (a a' : Option Addr) (n c c' : Nat) (T N : Int) (ls : List Ls) (w : World) (hn : n = ls.length) (hP : RowG KLs w a ls) (hP' : RowG KLs w a' ls) (hl : n ≤ 9000000000) :
    Calls Tryz.prog 28 #[.agg #[.slice a n c, .int .i64 T, .int .i64 N], .agg #[.slice a' n c', .int .i64 T, .int .i64 N]] w fun e w' => e = .returned (.bool true) ∧ Below w.heap.size w w' := by
  have HTP := hidP (fun W h => eqLeaseS_same a a' n c c' ls W hn (hP.later h) (hP'.later h) hl)
  clear hP hP' hn
  go_enter Tryz.func28, Tryz.ntmps28
  go_wp2_with fail
  refine (HTP.out _ ?_).mono ?_
  · repeat (first | with_reducible exact Below.refl _ _ | (with_reducible refine Below.drew ?_) | (with_reducible refine Below.alloc ?_ ?_ _; rotate_left; (focus (first | omega | (simp; omega) | (simp; done)))) | (with_reducible refine Below.setCell ?_ ?_ _; rotate_left; (focus (first | omega | (simp; omega) | (simp; done)))))
  rintro e w1 ⟨rfl, hb1⟩
  have hz1 := hb1.size
  try simp at hz1
  have f10 : w.heap.size < w1.heap.size := by omega
  have f11 : w.heap.size + 1 < w1.heap.size := by omega
  refine olds_k (w.heap.size + 2) hb1 ?_ ?_
  · first | omega | (simp; omega) | (simp; done)
  intro hc1 hf1
  go_wp2_with fail
  go_ret
  refine ⟨rfl, ?_⟩
  repeat (first | with_reducible exact Below.refl _ _ | (with_reducible refine Below.drew ?_) | (with_reducible refine Below.alloc ?_ ?_ _; rotate_left; (focus (first | omega | (simp; omega) | (simp; done)))) | (with_reducible refine Below.setCell ?_ ?_ _; rotate_left; (focus (first | omega | (simp; omega) | (simp; done)))) | (with_reducible refine Below.trans ?_ (hb1.mono ?_); rotate_left; (focus (first | omega | (simp; omega) | (simp; done)))))

end Go.Proofs.YtplocbpngikohaaGreat
namespace Go.Proofs.YtplocbpngikohaaGreat
open Go.RowKit

theorem key_inj {a b : Ad} (h : a.key = b.key) : a = b := by
  have h1 := adr_lt a.H a.L
  have h2 := adr_lt b.H b.L
  unfold Ad.key keyN at h
  have hs : a.s = b.s := by
    cases hx : a.s <;> cases hy : b.s <;> simp [hx, hy] at h ⊢ <;> omega
  rw [hs] at h
  have h3 := adrN_inj (Nat.add_left_cancel h)
  cases a; cases b
  simp only at hs h3
  rw [hs, h3.1, h3.2]
theorem key_eq (q ad : Ad) : (q.s == ad.s && (q.H.toInt == ad.H.toInt && q.L.toInt == ad.L.toInt)) = (q.key == ad.key) := by
  by_cases h : q = ad
  · subst h; simp
  · have h1 : (q.key == ad.key) = false := by
      rw [beq_eq_false_iff_ne]; exact fun e => h (key_inj e)
    rw [h1]
    apply Bool.eq_false_iff.2
    intro hc
    simp only [Bool.and_eq_true, beq_iff_eq] at hc
    apply h
    cases q; cases ad
    simp only at hc
    rw [hc.1, BitVec.toInt_inj.1 hc.2.1, BitVec.toInt_inj.1 hc.2.2]
/-- Where the lease of an address stands. -/
def fxL (ls : List Ls) (ad : Ad) : Option Nat := ls.findIdx? fun q => q.a.key == ad.key
theorem fx_some {ls : List Ls} {ad : Ad} {i : Nat} {q : Ls} (hq : ls[i]? = some q) (he : q.a.key = ad.key) (hlow : ∀ (j : Nat) (r : Ls), j < i → ls[j]? = some r → r.a.key ≠ ad.key) : fxL ls ad = some i := by
  unfold fxL
  rw [List.findIdx?_eq_some_iff_getElem]
  have hi := (List.getElem?_eq_some_iff.1 hq).1
  have hg := (List.getElem?_eq_some_iff.1 hq).2
  refine ⟨hi, by rw [hg]; simpa using he, fun j hj => ?_⟩
  have := hlow j ls[j] hj (List.getElem?_eq_getElem (by omega))
  simpa using this
theorem fx_none {ls : List Ls} {ad : Ad} (h : ∀ (j : Nat) (r : Ls), ls[j]? = some r → r.a.key ≠ ad.key) : fxL ls ad = none := by
  unfold fxL
  rw [List.findIdx?_eq_none_iff]
  intro q hq
  obtain ⟨j, hj, e⟩ := List.getElem_of_mem hq
  have := h j q (by rw [← e]; exact List.getElem?_eq_getElem hj)
  simpa using this
theorem fx_at {ls : List Ls} {ad : Ad} {i : Nat} (h : fxL ls ad = some i) : ∃ q, ls[i]? = some q ∧ q.a.key = ad.key ∧ i < ls.length := by
  unfold fxL at h
  rw [List.findIdx?_eq_some_iff_getElem] at h
  obtain ⟨hi, he, _⟩ := h
  exact ⟨ls[i], List.getElem?_eq_getElem hi, by simpa using he, hi⟩
def fxI (ls : List Ls) (ad : Ad) : Int := match fxL ls ad with | none => -1 | some i => i
set_option maxRecDepth 10000 in
set_option maxHeartbeats 2000000 in
theorem l6Find_any (a : Option Addr) (n c : Nat) (T N : Int) (ls : List Ls) (ad : Ad) (w : World) (hn : n = ls.length) (hB : RowG KLs w a ls) (hl : n ≤ 1048576) :
    Calls Tryz.prog 30 #[.agg #[.slice a n c, .int .i64 T, .int .i64 N], .agg #[.bool ad.s, .int .i64 ad.H.toInt, .int .i64 ad.L.toInt]] w fun e w' => e = .returned (.int .i64 (fxI ls ad)) ∧ Below w.heap.size w w' := by
  have HB := hidP (fun W h => hB.later (w' := W) h)
  have HN := hidP hn
  clear hB hn
  go_enter Tryz.func30, Tryz.ntmps30
  go_wp2_with fail
  obtain ⟨b0, b1, b2⟩ := box3B w 42 (.slice a n c) (.int .i64 T) (.int .i64 N)
  have bB := alloc_below w (.cells #[.slice a n c, .int .i64 T, .int .i64 N] 42)
  have bL := alloc_lt w (.cells #[.slice a n c, .int .i64 T, .int .i64 N] 42)
  have bS : (w.alloc (.cells #[.slice a n c, .int .i64 T, .int .i64 N] 42)).heap.size = w.heap.size + 1 := by simp
  generalize w.alloc (.cells #[.slice a n c, .int .i64 T, .int .i64 N] 42) = W1 at *
  obtain ⟨y0, y1, y2⟩ := box3B W1 55 (.bool ad.s) (.int .i64 ad.H.toInt) (.int .i64 ad.L.toInt)
  have yB := alloc_below W1 (.cells #[.bool ad.s, .int .i64 ad.H.toInt, .int .i64 ad.L.toInt] 55)
  have yL := alloc_lt W1 (.cells #[.bool ad.s, .int .i64 ad.H.toInt, .int .i64 ad.L.toInt] 55)
  have yS : (W1.alloc (.cells #[.bool ad.s, .int .i64 ad.H.toInt, .int .i64 ad.L.toInt] 55)).heap.size = W1.heap.size + 1 := by simp
  generalize W1.alloc (.cells #[.bool ad.s, .int .i64 ad.H.toInt, .int .i64 ad.L.toInt] 55) = W2 at *
  rw [bS] at y0 y1 y2 yL yS
  have hL0 : w.heap.size < W2.heap.size := by omega
  have b0' := (yB.cell bL).trans b0
  have HU := hidP (bB.trans (yB.mono bB.size))
  have HR := hidP (HB.out _ HU.out)
  clear bB yB bS yS b0 b1 b2 HB bL
  go_loopw [5] (fun t5 wr => ∃ k : Nat, k ≤ n ∧ t5 = .int .i64 k ∧ (∀ (j : Nat) (r : Ls), j < k → ls[j]? = some r → r.a.key ≠ ad.key) ∧ Below W2.heap.size W2 wr) (fun t5 _ => n - (intOf t5).toNat)
  case atStart => exact ⟨0, Nat.zero_le _, rfl, (fun j r h => by omega), Below.refl _ _⟩
  case round =>
    obtain ⟨k, hk, rfl, hlow, hbel⟩ := hrel
    have HBel := hidP hbel
    have HLow := hidP hlow
    have B0 := (hbel.cell hL0).trans b0'
    have BL : w.heap.size < wr.heap.size := Nat.lt_of_lt_of_le hL0 hbel.size
    have Y0 := (hbel.cell yL).trans y0
    have Y1 := (hbel.cell yL).trans y1
    have Y2 := (hbel.cell yL).trans y2
    have YL : w.heap.size + 1 < wr.heap.size := Nat.lt_of_lt_of_le yL hbel.size
    clear hlow
    by_cases hlt : k < n
    · obtain ⟨p, o, q, rfl, hp, hq, c0, c1, c2, c3, c4, c5⟩ := rowLs HR.out k (by have := HN.out; omega)
      have d0 := (hbel.cell hp).trans c0
      have d1 := (hbel.cell hp).trans c1
      have d2 := (hbel.cell hp).trans c2
      have hpw : p < wr.heap.size := Nat.lt_of_lt_of_le hp hbel.size
      have k0 : (0 : Int) ≤ (k : Int) := by omega
      have k1 : (k : Int) < (n : Int) := by omega
      have HQ := hidP hq
      have hE := fun wx => eqSt q.a.s q.a.H.toInt q.a.L.toInt ad.s ad.H.toInt ad.L.toInt wx
      simp only [key_eq q.a ad] at hE
      clear c0 c1 c2 c3 c4 c5 hq hbel
      cases hk2 : (q.a.key == ad.key)
      · rw [hk2] at hE
        go_wp2_with fail
        have HSx : Hid (∀ x, Below wr.heap.size wr x → (x.cell? ⟨w.heap.size, 0, none⟩ = some (.slice (some ⟨p, o, none⟩) n c) ∧ x.cell? ⟨p, o + k * 6, none⟩ = some (.bool q.a.s) ∧ x.cell? ⟨p, o + k * 6 + 1, none⟩ = some (.int .i64 q.a.H.toInt) ∧ x.cell? ⟨p, o + k * 6 + 2, none⟩ = some (.int .i64 q.a.L.toInt) ∧ x.cell? ⟨w.heap.size + 1, 0, none⟩ = some (.bool ad.s) ∧ x.cell? ⟨w.heap.size + 1, 1, none⟩ = some (.int .i64 ad.H.toInt) ∧ x.cell? ⟨w.heap.size + 1, 2, none⟩ = some (.int .i64 ad.L.toInt) ∧ Below wr.heap.size wr x)) := hidP fun x h =>
          ⟨(h.cell BL).trans B0, (h.cell hpw).trans d0, (h.cell hpw).trans d1, (h.cell hpw).trans d2, (h.cell YL).trans Y0, (h.cell YL).trans Y1, (h.cell YL).trans Y2, h⟩
        refine wp_region_held_drew (S := (fun x => x.cell? ⟨w.heap.size, 0, none⟩ = some (.slice (some ⟨p, o, none⟩) n c) ∧ x.cell? ⟨p, o + k * 6, none⟩ = some (.bool q.a.s) ∧ x.cell? ⟨p, o + k * 6 + 1, none⟩ = some (.int .i64 q.a.H.toInt) ∧ x.cell? ⟨p, o + k * 6 + 2, none⟩ = some (.int .i64 q.a.L.toInt) ∧ x.cell? ⟨w.heap.size + 1, 0, none⟩ = some (.bool ad.s) ∧ x.cell? ⟨w.heap.size + 1, 1, none⟩ = some (.int .i64 ad.H.toInt) ∧ x.cell? ⟨w.heap.size + 1, 2, none⟩ = some (.int .i64 ad.L.toInt) ∧ Below wr.heap.size wr x)) (by kernel_rfl) ?_ (fun hHeld => ?_)
        · try dsimp only
          exact HSx.out _ ((Below.refl _ _).drew)
        refine tkA 0 13 (v := ?_) rfl (by kernel_rfl) (fun _ _ _ h => h) (by rfl) ?_ (by assumption) ?_; rotate_left; · (intro w hSw; (try dsimp only at hSw); go_simp; try with_reducible rfl)
        simp only [pa]
        refine tkA 1 14 (v := ?_) rfl (by kernel_rfl) (fun _ _ _ h => h) (by rfl) ?_ (by assumption) ?_; rotate_left; · (intro w hSw; (try dsimp only at hSw); go_simp; try with_reducible rfl)
        simp only [pa]
        refine tkA 2 15 (v := ?_) rfl (by kernel_rfl) (fun _ _ _ h => h) (by rfl) ?_ (by assumption) ?_; rotate_left; · (intro w hSw; (try dsimp only at hSw); go_simp; try with_reducible rfl)
        simp only [pa]
        refine tkA 3 16 (v := ?_) rfl (by kernel_rfl) (fun _ _ _ h => h) (by rfl) ?_ (by assumption) ?_; rotate_left; · (intro w hSw; (try dsimp only at hSw); go_simp; try with_reducible rfl)
        simp only [pa]
        refine tkA 4 17 (v := ?_) rfl (by kernel_rfl) (fun _ _ _ h => h) (by rfl) ?_ (by assumption) ?_; rotate_left; · (intro w hSw; (try dsimp only at hSw); go_simp; try with_reducible rfl)
        simp only [pa]
        refine tkA 5 18 (v := ?_) rfl (by kernel_rfl) (fun _ _ _ h => h) (by rfl) ?_ (by assumption) ?_; rotate_left; · (intro w hSw; (try dsimp only at hSw); go_simp; try with_reducible rfl)
        simp only [pa]
        refine tkA 6 19 (v := ?_) rfl (by kernel_rfl) (fun _ _ _ h => h) (by rfl) ?_ (by assumption) ?_; rotate_left; · (intro w hSw; (try dsimp only at hSw); go_simp; try with_reducible rfl)
        simp only [pa]
        refine tkA 7 20 (v := ?_) rfl (by kernel_rfl) (fun _ _ _ h => h) (by rfl) ?_ (by assumption) ?_; rotate_left; · (intro w hSw; (try dsimp only at hSw); go_simp; try with_reducible rfl)
        simp only [pa]
        have HE := hidP (hHeld.2.2.2.2.2.2.2)
        refine wpAnyH_done (by kernel_rfl) ?_ _
        clear hHeld
        go_wp2_with fail
        go_roundw
        case rel =>
          refine ⟨k + 1, by omega, by go_num, (fun j r hj hr => ?_), HBel.out.trans (HE.out.mono HBel.out.size)⟩
          by_cases hjk : j = k
          · subst hjk; rw [HQ.out] at hr; cases hr; simpa using hk2
          · exact HLow.out j r (by omega) hr
        case measure => simp [intOf]; omega
      · rw [hk2] at hE
        go_wp2_with fail
        have HSx : Hid (∀ x, Below wr.heap.size wr x → (x.cell? ⟨w.heap.size, 0, none⟩ = some (.slice (some ⟨p, o, none⟩) n c) ∧ x.cell? ⟨p, o + k * 6, none⟩ = some (.bool q.a.s) ∧ x.cell? ⟨p, o + k * 6 + 1, none⟩ = some (.int .i64 q.a.H.toInt) ∧ x.cell? ⟨p, o + k * 6 + 2, none⟩ = some (.int .i64 q.a.L.toInt) ∧ x.cell? ⟨w.heap.size + 1, 0, none⟩ = some (.bool ad.s) ∧ x.cell? ⟨w.heap.size + 1, 1, none⟩ = some (.int .i64 ad.H.toInt) ∧ x.cell? ⟨w.heap.size + 1, 2, none⟩ = some (.int .i64 ad.L.toInt) ∧ Below wr.heap.size wr x)) := hidP fun x h =>
          ⟨(h.cell BL).trans B0, (h.cell hpw).trans d0, (h.cell hpw).trans d1, (h.cell hpw).trans d2, (h.cell YL).trans Y0, (h.cell YL).trans Y1, (h.cell YL).trans Y2, h⟩
        refine wp_region_held_drew (S := (fun x => x.cell? ⟨w.heap.size, 0, none⟩ = some (.slice (some ⟨p, o, none⟩) n c) ∧ x.cell? ⟨p, o + k * 6, none⟩ = some (.bool q.a.s) ∧ x.cell? ⟨p, o + k * 6 + 1, none⟩ = some (.int .i64 q.a.H.toInt) ∧ x.cell? ⟨p, o + k * 6 + 2, none⟩ = some (.int .i64 q.a.L.toInt) ∧ x.cell? ⟨w.heap.size + 1, 0, none⟩ = some (.bool ad.s) ∧ x.cell? ⟨w.heap.size + 1, 1, none⟩ = some (.int .i64 ad.H.toInt) ∧ x.cell? ⟨w.heap.size + 1, 2, none⟩ = some (.int .i64 ad.L.toInt) ∧ Below wr.heap.size wr x)) (by kernel_rfl) ?_ (fun hHeld => ?_)
        · try dsimp only
          exact HSx.out _ ((Below.refl _ _).drew)
        refine tkA 0 13 (v := ?_) rfl (by kernel_rfl) (fun _ _ _ h => h) (by rfl) ?_ (by assumption) ?_; rotate_left; · (intro w hSw; (try dsimp only at hSw); go_simp; try with_reducible rfl)
        simp only [pa]
        refine tkA 1 14 (v := ?_) rfl (by kernel_rfl) (fun _ _ _ h => h) (by rfl) ?_ (by assumption) ?_; rotate_left; · (intro w hSw; (try dsimp only at hSw); go_simp; try with_reducible rfl)
        simp only [pa]
        refine tkA 2 15 (v := ?_) rfl (by kernel_rfl) (fun _ _ _ h => h) (by rfl) ?_ (by assumption) ?_; rotate_left; · (intro w hSw; (try dsimp only at hSw); go_simp; try with_reducible rfl)
        simp only [pa]
        refine tkA 3 16 (v := ?_) rfl (by kernel_rfl) (fun _ _ _ h => h) (by rfl) ?_ (by assumption) ?_; rotate_left; · (intro w hSw; (try dsimp only at hSw); go_simp; try with_reducible rfl)
        simp only [pa]
        refine tkA 4 17 (v := ?_) rfl (by kernel_rfl) (fun _ _ _ h => h) (by rfl) ?_ (by assumption) ?_; rotate_left; · (intro w hSw; (try dsimp only at hSw); go_simp; try with_reducible rfl)
        simp only [pa]
        refine tkA 5 18 (v := ?_) rfl (by kernel_rfl) (fun _ _ _ h => h) (by rfl) ?_ (by assumption) ?_; rotate_left; · (intro w hSw; (try dsimp only at hSw); go_simp; try with_reducible rfl)
        simp only [pa]
        refine tkA 6 19 (v := ?_) rfl (by kernel_rfl) (fun _ _ _ h => h) (by rfl) ?_ (by assumption) ?_; rotate_left; · (intro w hSw; (try dsimp only at hSw); go_simp; try with_reducible rfl)
        simp only [pa]
        refine tkA 7 20 (v := ?_) rfl (by kernel_rfl) (fun _ _ _ h => h) (by rfl) ?_ (by assumption) ?_; rotate_left; · (intro w hSw; (try dsimp only at hSw); go_simp; try with_reducible rfl)
        simp only [pa]
        have HE := hidP (hHeld.2.2.2.2.2.2.2)
        refine wpAnyH_done (by kernel_rfl) ?_ _
        clear hHeld
        go_wp2_with fail
        go_ret
        exact ⟨ret_i (Eq.symm (by unfold fxI; rw [fx_some HQ.out (by simpa using hk2) HLow.out])), HU.out.trans ((HBel.out.trans (HE.out.mono HBel.out.size)).mono HU.out.size)⟩
    · have HF : Hid (fxI ls ad = -1) := hidP (by
        unfold fxI
        rw [fx_none fun j r hr => HLow.out j r (by have := (List.getElem?_eq_some_iff.1 hr).1; have := HN.out; omega) hr])
      clear hbel
      go_wp2_with fail
      go_ret
      exact ⟨ret_i HF.out.symm, HU.out.trans (HBel.out.mono HU.out.size)⟩

end Go.Proofs.YtplocbpngikohaaGreat
namespace Go.Proofs.YtplocbpngikohaaGreat
open Go.RowKit

set_option maxRecDepth 10000 in
set_option maxHeartbeats 1000000 in
theorem iPlanOk_any (ap : Option Addr) (np cp : Nat) (ab : Option Addr) (nb cb : Nat) (ps : List Pl) (bs : List Bk) (w : World) (hnp : np = ps.length) (hnb : nb = bs.length) (hP : RowG KPl w ap ps) (hK : RowG KBk w ab bs) (hlp : np ≤ 9000000000) (hl : nb ≤ 9000000000) (hst : ∀ q ∈ bs, q.t.size ≤ 9223372036854775807) :
    Calls Tryz.prog 23 #[.agg #[.slice ap np cp, .slice ab nb cb]] w fun e w' => e = .returned (.bool (planB ps bs)) ∧ Below w.heap.size w w' := by
  have HPO := hidP (fun W h => poolsOk_any ap np cp ps W hnp (hP.later h) hlp)
  have HBO := hidP (fun W h => blocksOk_any ap np cp ab nb cb ps bs W hnp hnb (hP.later h) (hK.later h) hlp hl hst)
  have hv : planB ps bs = ((decide (np ≤ 20) && decide (nb ≤ 60)) && (poolsF none ps && blocksI ps none bs)) := by rw [hnp, hnb]; rfl
  rw [hv]
  generalize poolsF none ps = r1 at *
  generalize blocksI ps none bs = r2 at *
  clear hP hK hnp hnb hst hv
  cases h1 : decide (np ≤ 20)
  · have g1 : decide ((np : Int) ≤ 20) = false := by rw [← h1]; exact decide_eq_decide.mpr (by omega)
    go_enter Tryz.func23, Tryz.ntmps23
    go_wp2_with fail
    go_ret
    exact ⟨rfl, (Below.refl _ _).alloc (Nat.le_refl _) _⟩
  · have g1 : decide ((np : Int) ≤ 20) = true := by rw [← h1]; exact decide_eq_decide.mpr (by omega)
    cases h2 : decide (nb ≤ 60)
    · have g2 : decide ((nb : Int) ≤ 60) = false := by rw [← h2]; exact decide_eq_decide.mpr (by omega)
      go_enter Tryz.func23, Tryz.ntmps23
      go_wp2_with fail
      go_ret
      exact ⟨rfl, (Below.refl _ _).alloc (Nat.le_refl _) _⟩
    · have g2 : decide ((nb : Int) ≤ 60) = true := by rw [← h2]; exact decide_eq_decide.mpr (by omega)
      cases r1
      · go_enter Tryz.func23, Tryz.ntmps23
        go_wp2_with fail
        obtain ⟨u0, u1⟩ := box2 (u := .slice ap np cp) (v := .slice ab nb cb) w 39
        have uB := alloc_below w (.cells #[.slice ap np cp, .slice ab nb cb] 39)
        have uL := alloc_lt w (.cells #[.slice ap np cp, .slice ab nb cb] 39)
        have uS : (w.alloc (.cells #[.slice ap np cp, .slice ab nb cb] 39)).heap.size = w.heap.size + 1 := by simp
        generalize w.alloc (.cells #[.slice ap np cp, .slice ab nb cb] 39) = W1 at *
        have HUB := hidP uB
        refine (HPO.out W1 uB).mono ?_
        rintro e w1 ⟨rfl, hb1⟩
        have HB1 := hidP hb1
        have z0 := (hb1.cell uL).trans u0
        have z1 := (hb1.cell uL).trans u1
        clear uB hb1
        go_wp2_with fail
        go_ret
        exact ⟨rfl, HUB.out.trans (HB1.out.mono HUB.out.size)⟩
      · go_enter Tryz.func23, Tryz.ntmps23
        go_wp2_with fail
        obtain ⟨u0, u1⟩ := box2 (u := .slice ap np cp) (v := .slice ab nb cb) w 39
        have uB := alloc_below w (.cells #[.slice ap np cp, .slice ab nb cb] 39)
        have uL := alloc_lt w (.cells #[.slice ap np cp, .slice ab nb cb] 39)
        have uS : (w.alloc (.cells #[.slice ap np cp, .slice ab nb cb] 39)).heap.size = w.heap.size + 1 := by simp
        generalize w.alloc (.cells #[.slice ap np cp, .slice ab nb cb] 39) = W1 at *
        have HUB := hidP uB
        refine (HPO.out W1 uB).mono ?_
        rintro e w1 ⟨rfl, hb1⟩
        have HB1 := hidP (HUB.out.trans (hb1.mono HUB.out.size))
        have z0 := (hb1.cell uL).trans u0
        have z1 := (hb1.cell uL).trans u1
        clear uB hb1
        go_wp2_with fail
        refine (HBO.out w1 HB1.out).mono ?_
        rintro e w2 ⟨rfl, hb2⟩
        have HB2 := hidP hb2
        clear hb2
        go_wp2_with fail
        go_ret
        exact ⟨by cases r2 <;> rfl, HB1.out.trans (HB2.out.mono HB1.out.size)⟩

end Go.Proofs.YtplocbpngikohaaGreat
namespace Go.Proofs.YtplocbpngikohaaGreat
open Go.RowKit

theorem lpF_at (p : Pf) (ps : List Pl) (k : Nat) (q : Pl) (h : ps[k]? = some q) : lpF p k (ps.drop k) = if winP p q.p = true then (k : Int) else lpF p ((k + 1 : Nat) : Int) (ps.drop (k + 1)) := by
  rw [drop_at h]; rfl

set_option maxRecDepth 10000 in
set_option maxHeartbeats 1000000 in
theorem l5Pool_any (pt : Pf) (ap : Option Addr) (np cp : Nat) (ab : Option Addr) (nb cb : Nat) (ps : List Pl) (w : World) (hnp : np = ps.length) (hP : RowG KPl w ap ps) (hlp : np ≤ 9000000000) :
    Calls Tryz.prog 38 #[.agg #[.slice ap np cp, .slice ab nb cb], .agg #[.bool pt.s, .int .i64 pt.H.toInt, .int .i64 pt.L.toInt, .int .i64 pt.b]] w fun e w' => e = .returned (.int .i64 (lpF pt 0 ps)) ∧ Below w.heap.size w w' := by
  have HBP := hidP hP
  have HN := hidP hnp
  clear hP hnp
  go_enter Tryz.func38, Tryz.ntmps38
  go_wp2_with fail
  obtain ⟨u0, u1⟩ := box2 (u := .slice ap np cp) (v := .slice ab nb cb) w 39
  have uB := alloc_below w (.cells #[.slice ap np cp, .slice ab nb cb] 39)
  have uL := alloc_lt w (.cells #[.slice ap np cp, .slice ab nb cb] 39)
  have uS : (w.alloc (.cells #[.slice ap np cp, .slice ab nb cb] 39)).heap.size = w.heap.size + 1 := by simp
  generalize w.alloc (.cells #[.slice ap np cp, .slice ab nb cb] 39) = W1 at *
  obtain ⟨y0, y1, y2, y3⟩ := box4 (p := pt) W1 65
  have yB := alloc_below W1 (.cells #[.bool pt.s, .int .i64 pt.H.toInt, .int .i64 pt.L.toInt, .int .i64 pt.b] 65)
  have yL := alloc_lt W1 (.cells #[.bool pt.s, .int .i64 pt.H.toInt, .int .i64 pt.L.toInt, .int .i64 pt.b] 65)
  have yS : (W1.alloc (.cells #[.bool pt.s, .int .i64 pt.H.toInt, .int .i64 pt.L.toInt, .int .i64 pt.b] 65)).heap.size = W1.heap.size + 1 := by simp
  generalize W1.alloc (.cells #[.bool pt.s, .int .i64 pt.H.toInt, .int .i64 pt.L.toInt, .int .i64 pt.b] 65) = W2 at *
  rw [uS] at y0 y1 y2 y3 yL yS
  have s0 := (yB.cell uL).trans u0
  have sL : w.heap.size < W2.heap.size := by omega
  have HUB := hidP (uB.trans (yB.mono uB.size))
  have HP2 := hidP (HBP.out.later HUB.out)
  clear uB yB uS yS u0 u1 HBP uL
  go_loopw [5] (fun t5 wr => ∃ k : Nat, k ≤ np ∧ t5 = .int .i64 k ∧ lpF pt 0 ps = lpF pt k (ps.drop k) ∧ Below W2.heap.size W2 wr) (fun t5 _ => np - (intOf t5).toNat)
  case atStart => exact ⟨0, Nat.zero_le _, rfl, rfl, Below.refl _ _⟩
  case round =>
    obtain ⟨k, hk, rfl, hix, hbel⟩ := hrel
    by_cases hlt : k < np
    · obtain ⟨p, o, q, rfl, hp, hq, c0, c1, c2, c3, c4⟩ := rowPl HP2.out k (by rw [← HN.out]; exact hlt)
      have d0 := (hbel.cell hp).trans c0
      have d1 := (hbel.cell hp).trans c1
      have d2 := (hbel.cell hp).trans c2
      have d3 := (hbel.cell hp).trans c3
      have dL : p < wr.heap.size := Nat.lt_of_lt_of_le hp hbel.size
      have v0 := (hbel.cell sL).trans s0
      have vL : w.heap.size < wr.heap.size := Nat.lt_of_lt_of_le sL hbel.size
      have r0 := (hbel.cell yL).trans y0
      have r1 := (hbel.cell yL).trans y1
      have r2 := (hbel.cell yL).trans y2
      have r3 := (hbel.cell yL).trans y3
      have rL : w.heap.size + 1 < wr.heap.size := Nat.lt_of_lt_of_le yL hbel.size
      have hst := lpF_at pt ps k q hq
      rw [hst] at hix
      have HX := hidP hix
      have HBel := hidP hbel
      have HWi := hidP (sWithin_any pt.s pt.H pt.L pt.b q.p.s q.p.H q.p.L q.p.b)
      change Hid (∀ w, Calls Tryz.prog 63 _ w fun e w' => e = .returned (.bool (winP pt q.p)) ∧ Below w.heap.size w w') at HWi
      clear c0 c1 c2 c3 c4 hq hix hst hbel
      cases hw : winP pt q.p
      · rw [hw] at HX HWi
        go_wp2_with fail
        have HSx : Hid (∀ x, Below wr.heap.size wr x → (x.cell? ⟨p, o + k * 5, none⟩ = some (.bool q.p.s) ∧ x.cell? ⟨p, o + k * 5 + 1, none⟩ = some (.int .i64 q.p.H.toInt) ∧ x.cell? ⟨p, o + k * 5 + 2, none⟩ = some (.int .i64 q.p.L.toInt) ∧ x.cell? ⟨p, o + k * 5 + 3, none⟩ = some (.int .i64 q.p.b) ∧ x.cell? ⟨w.heap.size, 0, none⟩ = some (.slice (some ⟨p, o, none⟩) np cp) ∧ x.cell? ⟨w.heap.size + 1, 0, none⟩ = some (.bool pt.s) ∧ x.cell? ⟨w.heap.size + 1, 1, none⟩ = some (.int .i64 pt.H.toInt) ∧ x.cell? ⟨w.heap.size + 1, 2, none⟩ = some (.int .i64 pt.L.toInt) ∧ x.cell? ⟨w.heap.size + 1, 3, none⟩ = some (.int .i64 pt.b) ∧ Below wr.heap.size wr x)) := hidP fun x h =>
          ⟨(h.cell dL).trans d0, (h.cell dL).trans d1, (h.cell dL).trans d2, (h.cell dL).trans d3, (h.cell vL).trans v0, (h.cell rL).trans r0, (h.cell rL).trans r1, (h.cell rL).trans r2, (h.cell rL).trans r3, h⟩
        refine wp_region_held_drew (S := (fun x => x.cell? ⟨p, o + k * 5, none⟩ = some (.bool q.p.s) ∧ x.cell? ⟨p, o + k * 5 + 1, none⟩ = some (.int .i64 q.p.H.toInt) ∧ x.cell? ⟨p, o + k * 5 + 2, none⟩ = some (.int .i64 q.p.L.toInt) ∧ x.cell? ⟨p, o + k * 5 + 3, none⟩ = some (.int .i64 q.p.b) ∧ x.cell? ⟨w.heap.size, 0, none⟩ = some (.slice (some ⟨p, o, none⟩) np cp) ∧ x.cell? ⟨w.heap.size + 1, 0, none⟩ = some (.bool pt.s) ∧ x.cell? ⟨w.heap.size + 1, 1, none⟩ = some (.int .i64 pt.H.toInt) ∧ x.cell? ⟨w.heap.size + 1, 2, none⟩ = some (.int .i64 pt.L.toInt) ∧ x.cell? ⟨w.heap.size + 1, 3, none⟩ = some (.int .i64 pt.b) ∧ Below wr.heap.size wr x)) (by kernel_rfl) ?_ (fun hHeld => ?_)
        · try dsimp only
          exact HSx.out _ (Below.refl _ _).drew
        refine tkA 0 13 (v := ?_) rfl (by kernel_rfl) (fun _ _ _ h => h) (by rfl) ?_ (by assumption) ?_; rotate_left; · (intro w hSw; (try dsimp only at hSw); go_simp; try with_reducible rfl)
        simp only [pa]
        refine tkA 1 14 (v := ?_) rfl (by kernel_rfl) (fun _ _ _ h => h) (by rfl) ?_ (by assumption) ?_; rotate_left; · (intro w hSw; (try dsimp only at hSw); go_simp; try with_reducible rfl)
        simp only [pa]
        refine tkA 2 15 (v := ?_) rfl (by kernel_rfl) (fun _ _ _ h => h) (by rfl) ?_ (by assumption) ?_; rotate_left; · (intro w hSw; (try dsimp only at hSw); go_simp; try with_reducible rfl)
        simp only [pa]
        refine tkA 3 16 (v := ?_) rfl (by kernel_rfl) (fun _ _ _ h => h) (by rfl) ?_ (by assumption) ?_; rotate_left; · (intro w hSw; (try dsimp only at hSw); go_simp; try with_reducible rfl)
        simp only [pa]
        refine tkA 4 17 (v := ?_) rfl (by kernel_rfl) (fun _ _ _ h => h) (by rfl) ?_ (by assumption) ?_; rotate_left; · (intro w hSw; (try dsimp only at hSw); go_simp; try with_reducible rfl)
        simp only [pa]
        refine tkA 5 18 (v := ?_) rfl (by kernel_rfl) (fun _ _ _ h => h) (by rfl) ?_ (by assumption) ?_; rotate_left; · (intro w hSw; (try dsimp only at hSw); go_simp; try with_reducible rfl)
        simp only [pa]
        refine tkA 6 19 (v := ?_) rfl (by kernel_rfl) (fun _ _ _ h => h) (by rfl) ?_ (by assumption) ?_; rotate_left; · (intro w hSw; (try dsimp only at hSw); go_simp; try with_reducible rfl)
        simp only [pa]
        refine wpAnyH_ready (rs := [7]) (by kernel_rfl) (by simp) ?_
        refine AllReadyH.cons rfl (fun K hK => ?_) AllReadyH.nil
        go_simp
        go_wp2_with (first | (go_at_call 63; refine (HWi.out _).mono ?_; rintro e w2 ⟨rfl, hb2⟩; have b2 := (hHeld.2.2.2.2.2.2.2.2.2).trans (hb2.mono (hHeld.2.2.2.2.2.2.2.2.2).size)))
        refine hK.out _ _ ?_ (fun hHeld => ?_)
        · try dsimp only
          exact HSx.out _ b2
        clear hK K
        have HE := hidP (hHeld.2.2.2.2.2.2.2.2.2)
        refine wpAnyH_done (by kernel_rfl) ?_ _
        clear hHeld
        go_wp2_with fail
        go_roundw
        case rel => exact ⟨k + 1, by omega, by go_num, by rw [HX.out]; simp, HBel.out.trans (HE.out.mono HBel.out.size)⟩
        case measure => simp [intOf]; omega
      · rw [hw] at HX HWi
        go_wp2_with fail
        have HSx : Hid (∀ x, Below wr.heap.size wr x → (x.cell? ⟨p, o + k * 5, none⟩ = some (.bool q.p.s) ∧ x.cell? ⟨p, o + k * 5 + 1, none⟩ = some (.int .i64 q.p.H.toInt) ∧ x.cell? ⟨p, o + k * 5 + 2, none⟩ = some (.int .i64 q.p.L.toInt) ∧ x.cell? ⟨p, o + k * 5 + 3, none⟩ = some (.int .i64 q.p.b) ∧ x.cell? ⟨w.heap.size, 0, none⟩ = some (.slice (some ⟨p, o, none⟩) np cp) ∧ x.cell? ⟨w.heap.size + 1, 0, none⟩ = some (.bool pt.s) ∧ x.cell? ⟨w.heap.size + 1, 1, none⟩ = some (.int .i64 pt.H.toInt) ∧ x.cell? ⟨w.heap.size + 1, 2, none⟩ = some (.int .i64 pt.L.toInt) ∧ x.cell? ⟨w.heap.size + 1, 3, none⟩ = some (.int .i64 pt.b) ∧ Below wr.heap.size wr x)) := hidP fun x h =>
          ⟨(h.cell dL).trans d0, (h.cell dL).trans d1, (h.cell dL).trans d2, (h.cell dL).trans d3, (h.cell vL).trans v0, (h.cell rL).trans r0, (h.cell rL).trans r1, (h.cell rL).trans r2, (h.cell rL).trans r3, h⟩
        refine wp_region_held_drew (S := (fun x => x.cell? ⟨p, o + k * 5, none⟩ = some (.bool q.p.s) ∧ x.cell? ⟨p, o + k * 5 + 1, none⟩ = some (.int .i64 q.p.H.toInt) ∧ x.cell? ⟨p, o + k * 5 + 2, none⟩ = some (.int .i64 q.p.L.toInt) ∧ x.cell? ⟨p, o + k * 5 + 3, none⟩ = some (.int .i64 q.p.b) ∧ x.cell? ⟨w.heap.size, 0, none⟩ = some (.slice (some ⟨p, o, none⟩) np cp) ∧ x.cell? ⟨w.heap.size + 1, 0, none⟩ = some (.bool pt.s) ∧ x.cell? ⟨w.heap.size + 1, 1, none⟩ = some (.int .i64 pt.H.toInt) ∧ x.cell? ⟨w.heap.size + 1, 2, none⟩ = some (.int .i64 pt.L.toInt) ∧ x.cell? ⟨w.heap.size + 1, 3, none⟩ = some (.int .i64 pt.b) ∧ Below wr.heap.size wr x)) (by kernel_rfl) ?_ (fun hHeld => ?_)
        · try dsimp only
          exact HSx.out _ (Below.refl _ _).drew
        refine tkA 0 13 (v := ?_) rfl (by kernel_rfl) (fun _ _ _ h => h) (by rfl) ?_ (by assumption) ?_; rotate_left; · (intro w hSw; (try dsimp only at hSw); go_simp; try with_reducible rfl)
        simp only [pa]
        refine tkA 1 14 (v := ?_) rfl (by kernel_rfl) (fun _ _ _ h => h) (by rfl) ?_ (by assumption) ?_; rotate_left; · (intro w hSw; (try dsimp only at hSw); go_simp; try with_reducible rfl)
        simp only [pa]
        refine tkA 2 15 (v := ?_) rfl (by kernel_rfl) (fun _ _ _ h => h) (by rfl) ?_ (by assumption) ?_; rotate_left; · (intro w hSw; (try dsimp only at hSw); go_simp; try with_reducible rfl)
        simp only [pa]
        refine tkA 3 16 (v := ?_) rfl (by kernel_rfl) (fun _ _ _ h => h) (by rfl) ?_ (by assumption) ?_; rotate_left; · (intro w hSw; (try dsimp only at hSw); go_simp; try with_reducible rfl)
        simp only [pa]
        refine tkA 4 17 (v := ?_) rfl (by kernel_rfl) (fun _ _ _ h => h) (by rfl) ?_ (by assumption) ?_; rotate_left; · (intro w hSw; (try dsimp only at hSw); go_simp; try with_reducible rfl)
        simp only [pa]
        refine tkA 5 18 (v := ?_) rfl (by kernel_rfl) (fun _ _ _ h => h) (by rfl) ?_ (by assumption) ?_; rotate_left; · (intro w hSw; (try dsimp only at hSw); go_simp; try with_reducible rfl)
        simp only [pa]
        refine tkA 6 19 (v := ?_) rfl (by kernel_rfl) (fun _ _ _ h => h) (by rfl) ?_ (by assumption) ?_; rotate_left; · (intro w hSw; (try dsimp only at hSw); go_simp; try with_reducible rfl)
        simp only [pa]
        refine wpAnyH_ready (rs := [7]) (by kernel_rfl) (by simp) ?_
        refine AllReadyH.cons rfl (fun K hK => ?_) AllReadyH.nil
        go_simp
        go_wp2_with (first | (go_at_call 63; refine (HWi.out _).mono ?_; rintro e w2 ⟨rfl, hb2⟩; have b2 := (hHeld.2.2.2.2.2.2.2.2.2).trans (hb2.mono (hHeld.2.2.2.2.2.2.2.2.2).size)))
        refine hK.out _ _ ?_ (fun hHeld => ?_)
        · try dsimp only
          exact HSx.out _ b2
        clear hK K
        have HE := hidP (hHeld.2.2.2.2.2.2.2.2.2)
        refine wpAnyH_done (by kernel_rfl) ?_ _
        clear hHeld
        go_wp2_with fail
        go_ret
        exact ⟨ret_i (by rw [HX.out]; simp), HUB.out.trans ((HBel.out.trans (HE.out.mono HBel.out.size)).mono HUB.out.size)⟩
    · have HX : Hid (lpF pt 0 ps = -1) := by
        rw [List.drop_of_length_le (by have := HN.out; omega)] at hix
        exact hidP hix
      have v0 := (hbel.cell sL).trans s0
      have HBel := hidP hbel
      clear hbel hix
      go_wp2_with fail
      go_ret
      exact ⟨ret_i HX.out.symm, HUB.out.trans (HBel.out.mono HUB.out.size)⟩

end Go.Proofs.YtplocbpngikohaaGreat
namespace Go.Proofs.YtplocbpngikohaaGreat
open Go.RowKit

set_option maxHeartbeats 1000000 in
theorem sOverlaps_any (s : Bool) (H L : BitVec 64) (b : Int) (s' : Bool) (H' L' : BitVec 64) (b' : Int) (w : World) :
    Calls Tryz.prog 37 #[.agg #[.bool s, .int .i64 H.toInt, .int .i64 L.toInt, .int .i64 b], .agg #[.bool s', .int .i64 H'.toInt, .int .i64 L'.toInt, .int .i64 b']] w fun e w' => e = .returned (.bool (winB s H L b s' H' L' b' || winB s' H' L' b' s H L b)) ∧ Below w.heap.size w w' := by
  have HW : Hid (∀ w, _) := sWithin_any s H L b s' H' L' b'
  have HX : Hid (∀ w, _) := sWithin_any s' H' L' b' s H L b
  generalize winB s H L b s' H' L' b' = B1 at HW ⊢
  generalize winB s' H' L' b' s H L b = B2 at HX ⊢
  cases B1
  · rw [Bool.false_or]
    go_enter Tryz.func37, Tryz.ntmps37
    go_wp2_with fail
    refine (HW.out _).mono ?_
    rintro e w1 ⟨rfl, hb1⟩
    have hz1 := hb1.size
    try simp at hz1
    have f10 : w.heap.size < w1.heap.size := by omega
    have f11 : w.heap.size + 1 < w1.heap.size := by omega
    refine olds_k (w.heap.size + 2) hb1 ?_ ?_
    · first | omega | (simp; omega) | (simp; done)
    intro hc1 hf1
    go_wp2_with fail
    refine (HX.out _).mono ?_
    rintro e w2 ⟨rfl, hb2⟩
    have hz2 := hb2.size
    try simp at hz2
    have f20 : w.heap.size < w2.heap.size := by omega
    have f21 : w.heap.size + 1 < w2.heap.size := by omega
    refine olds_k (w.heap.size + 2) hb2 ?_ ?_
    · first | omega | (simp; omega) | (simp; done)
    intro hc2 hf2
    go_wp2_with fail
    go_ret
    refine ⟨rfl, ?_⟩
    repeat (first | with_reducible exact Below.refl _ _ | (with_reducible refine Below.drew ?_) | (with_reducible refine Below.alloc ?_ ?_ _; rotate_left; (focus (first | omega | (simp; omega) | (simp; done)))) | (with_reducible refine Below.setCell ?_ ?_ _; rotate_left; (focus (first | omega | (simp; omega) | (simp; done)))) | (with_reducible refine Below.trans ?_ (hb2.mono ?_); rotate_left; (focus (first | omega | (simp; omega) | (simp; done)))) | (with_reducible refine Below.trans ?_ (hb1.mono ?_); rotate_left; (focus (first | omega | (simp; omega) | (simp; done)))))
  · rw [Bool.true_or]
    go_enter Tryz.func37, Tryz.ntmps37
    go_wp2_with fail
    refine (HW.out _).mono ?_
    rintro e w1 ⟨rfl, hb1⟩
    have hz1 := hb1.size
    try simp at hz1
    have f10 : w.heap.size < w1.heap.size := by omega
    have f11 : w.heap.size + 1 < w1.heap.size := by omega
    refine olds_k (w.heap.size + 2) hb1 ?_ ?_
    · first | omega | (simp; omega) | (simp; done)
    intro hc1 hf1
    go_wp2_with fail
    go_ret
    refine ⟨rfl, ?_⟩
    repeat (first | with_reducible exact Below.refl _ _ | (with_reducible refine Below.drew ?_) | (with_reducible refine Below.alloc ?_ ?_ _; rotate_left; (focus (first | omega | (simp; omega) | (simp; done)))) | (with_reducible refine Below.setCell ?_ ?_ _; rotate_left; (focus (first | omega | (simp; omega) | (simp; done)))) | (with_reducible refine Below.trans ?_ (hb1.mono ?_); rotate_left; (focus (first | omega | (simp; omega) | (simp; done)))))

end Go.Proofs.YtplocbpngikohaaGreat
