/-
  What stateOk_holds needs, part 3.
-/
import Derived.Test.YtplocbpngikohaaGreatZS2
import Derived.Deep.RegionWith
import Derived.Deep.DeepCutAuto
namespace Go.Proofs.YtplocbpngikohaaGreat
open Go.RowKit

set_option maxRecDepth 10000 in
set_option maxHeartbeats 1000000 in
theorem iPlanOk_any (ap : Option Addr) (np cp : Nat) (ab : Option Addr) (nb cb : Nat) (ps : List Pl) (bs : List Bk) (w : World) (hnp : np = ps.length) (hnb : nb = bs.length) (hP : RowG KPl w ap ps) (hK : RowG KBk w ab bs) (hlp : np ≤ 9000000000) (hl : nb ≤ 9000000000) (hst : ∀ q ∈ bs, q.t.size ≤ 9223372036854775807) :
    Calls Tryz.prog 23 #[.agg #[.slice ap np cp, .slice ab nb cb]] w fun e w' => e = .returned (.bool (planB ps bs)) ∧ Below w.heap.size w w' := by
  have HPO := hidP (fun W h => poolsOk_any ap np cp ps W hnp (hP.later h) hlp)
  have HBO := hidP (fun W h => blocksOk_any ap np cp ab nb cb ps bs W hnp hnb (hP.later h) (hK.later h) hlp hl hst)
  have hv : planB ps bs = ((decide (np ≤ 20) && decide (nb ≤ 60)) && (poolsF none ps && blocksI ps none bs)) := by rw [hnp, hnb]; rfl
  rw [hv]
  generalize poolsF none ps = r1 at *
  generalize blocksI ps none bs = r2 at *
  clear hP hK hnp hnb hst hv
  cases h1 : decide (np ≤ 20)
  · have g1 : decide ((np : Int) ≤ 20) = false := by rw [← h1]; exact decide_eq_decide.mpr (by omega)
    go_enter Tryz.func23, Tryz.ntmps23
    go_wp2_with fail
    go_ret
    exact ⟨rfl, (Below.refl _ _).alloc (Nat.le_refl _) _⟩
  · have g1 : decide ((np : Int) ≤ 20) = true := by rw [← h1]; exact decide_eq_decide.mpr (by omega)
    cases h2 : decide (nb ≤ 60)
    · have g2 : decide ((nb : Int) ≤ 60) = false := by rw [← h2]; exact decide_eq_decide.mpr (by omega)
      go_enter Tryz.func23, Tryz.ntmps23
      go_wp2_with fail
      go_ret
      exact ⟨rfl, (Below.refl _ _).alloc (Nat.le_refl _) _⟩
    · have g2 : decide ((nb : Int) ≤ 60) = true := by rw [← h2]; exact decide_eq_decide.mpr (by omega)
      cases r1
      · go_enter Tryz.func23, Tryz.ntmps23
        go_wp2_with fail
        obtain ⟨u0, u1⟩ := box2 (u := .slice ap np cp) (v := .slice ab nb cb) w 39
        have uB := alloc_below w (.cells #[.slice ap np cp, .slice ab nb cb] 39)
        have uL := alloc_lt w (.cells #[.slice ap np cp, .slice ab nb cb] 39)
        have uS : (w.alloc (.cells #[.slice ap np cp, .slice ab nb cb] 39)).heap.size = w.heap.size + 1 := by simp
        generalize w.alloc (.cells #[.slice ap np cp, .slice ab nb cb] 39) = W1 at *
        have HUB := hidP uB
        refine (HPO.out W1 uB).mono ?_
        rintro e w1 ⟨rfl, hb1⟩
        have HB1 := hidP hb1
        have z0 := (hb1.cell uL).trans u0
        have z1 := (hb1.cell uL).trans u1
        clear uB hb1
        go_wp2_with fail
        go_ret
        exact ⟨rfl, HUB.out.trans (HB1.out.mono HUB.out.size)⟩
      · go_enter Tryz.func23, Tryz.ntmps23
        go_wp2_with fail
        obtain ⟨u0, u1⟩ := box2 (u := .slice ap np cp) (v := .slice ab nb cb) w 39
        have uB := alloc_below w (.cells #[.slice ap np cp, .slice ab nb cb] 39)
        have uL := alloc_lt w (.cells #[.slice ap np cp, .slice ab nb cb] 39)
        have uS : (w.alloc (.cells #[.slice ap np cp, .slice ab nb cb] 39)).heap.size = w.heap.size + 1 := by simp
        generalize w.alloc (.cells #[.slice ap np cp, .slice ab nb cb] 39) = W1 at *
        have HUB := hidP uB
        refine (HPO.out W1 uB).mono ?_
        rintro e w1 ⟨rfl, hb1⟩
        have HB1 := hidP (HUB.out.trans (hb1.mono HUB.out.size))
        have z0 := (hb1.cell uL).trans u0
        have z1 := (hb1.cell uL).trans u1
        clear uB hb1
        go_wp2_with fail
        refine (HBO.out w1 HB1.out).mono ?_
        rintro e w2 ⟨rfl, hb2⟩
        have HB2 := hidP hb2
        clear hb2
        go_wp2_with fail
        go_ret
        exact ⟨by cases r2 <;> rfl, HB1.out.trans (HB2.out.mono HB1.out.size)⟩

end Go.Proofs.YtplocbpngikohaaGreat
namespace Go.Proofs.YtplocbpngikohaaGreat
open Go.ChangeShapes Go.WideShapes Go.ChangeAt Go.RowKit Go.Joins Go.Deep

theorem rowsG_of2 {α : Type} {K : Kd α} {E : α → Prop} {W : World} (a : Option Addr) : ∀ n : Nat, (∀ j, j < n → ∃ p o q, a = some ⟨p, o, none⟩ ∧ p < W.heap.size ∧ (∀ i v, (K.cs q)[i]? = some v → W.cell? ⟨p, o + j * K.k + i, none⟩ = some v) ∧ E q) → ∃ ps : List α, ps.length = n ∧ RowG K W a ps ∧ ∀ q ∈ ps, E q
  | 0, _ => ⟨[], rfl, RowG.nil _ _ _, fun _ h => by cases h⟩
  | n + 1, h => by
      obtain ⟨ps, hl, hb, he⟩ := rowsG_of2 a n (fun j hj => h j (by omega))
      obtain ⟨p, o, q, ha, hp, c, hq⟩ := h n (by omega)
      refine ⟨ps ++ [q], by simp [hl], fun j hj => ?_, fun x hx => ?_⟩
      · by_cases hjn : j < n
        · obtain ⟨p', o', z, ha', hp', hz, hc'⟩ := hb j (by omega)
          exact ⟨p', o', z, ha', hp', by rw [List.getElem?_append_left (by omega)]; exact hz, hc'⟩
        · have : j = n := by simp at hj; omega
          subst this
          exact ⟨p, o, q, ha, hp, by rw [List.getElem?_append_right (by omega), hl]; simp, c⟩
      · rcases List.mem_append.1 hx with hx | hx
        · exact he x hx
        · rw [List.mem_singleton] at hx; subst hx; exact hq

/-- One out of its five cells. -/
theorem ofBk2 {H : Type} {enc : TypeId × Value → H} {W : World} {fuel : Nat} {cs : List Value} {x : DataW H × List MemPlace} (hl : cs.length = 5)
    (h : DataW.trod enc Tryz.prog W 0 (fun _ => true) true fuel 114 cs = some x) : ∃ q : Bk, cs = q.cs ∧ q.t.size ≤ 9223372036854775807 := by
  match cs, hl with
  | [c0, c1, c2, c3, c4], _ =>
    obtain ⟨z0, z1, n, hx, _, h0, h1⟩ := trod_struct2 Tryz.underlying114 h
    have k0 : Tryz.prog.cellsOf 112 = 4 := by kernel_rfl
    have kl : Tryz.prog.cellsOf 9 = 1 := by kernel_rfl
    simp [k0, kl] at h0 h1
    obtain ⟨p, hp⟩ := pf_of rfl h0
    obtain ⟨y, e1, _, wy⟩ := DataW.trod_string Tryz.underlying9 h1
    simp at e1
    subst e1
    have hp' : [c0, c1, c2, c3] = [.bool p.s, .int .i64 p.H.toInt, .int .i64 p.L.toInt, .int .i64 p.b] := hp
    simp only [List.cons.injEq, and_true] at hp'
    obtain ⟨rfl, rfl, rfl, rfl⟩ := hp'
    exact ⟨⟨p, y⟩, rfl, by unfold maxLen at wy; show y.size ≤ _; omega⟩

set_option maxRecDepth 100000 in
/-- The things out of the reading of a row of them. -/
theorem openBk2 {H : Type} {enc : TypeId × Value → H} {W : World} {a : Option Addr} {len cap : Nat} {d : DataW H} {p : List MemPlace}
    (h : DataW.Trod enc Tryz.prog W 0 (fun _ => true) true 23 (.slice a len cap) d p) : ∃ ps : List Bk, ps.length = len ∧ len ≤ 9223372036854775807 ∧ RowG KBk W a ps ∧ ∀ q ∈ ps, q.t.size ≤ 9223372036854775807 := by
  obtain ⟨fuel, hf⟩ := h
  rcases open_slice Tryz.underlying23 hf with ⟨hcs, _⟩ | ⟨a', len', cap', m, n, D, Plc, hcs, _, hl, hmx, hm, _, hV⟩
  · simp [Value.cells] at hcs
    obtain ⟨rfl, rfl, rfl⟩ := hcs
    exact ⟨[], rfl, by omega, RowG.nil _ _ _, fun _ h => by cases h⟩
  · simp [Value.cells] at hcs
    obtain ⟨rfl, rfl, rfl⟩ := hcs
    suffices h9 : ∃ ps : List Bk, ps.length = len ∧ RowG KBk W (some a') ps ∧ ∀ q ∈ ps, q.t.size ≤ 9223372036854775807 by
      obtain ⟨ps, h1, h2⟩ := h9
      exact ⟨ps, h1, by unfold maxLen at hmx; omega, h2⟩
    refine rowsG_of2 (E := fun q : Bk => q.t.size ≤ 9223372036854775807) _ _ fun j hj => ?_
    simp at hm
    obtain ⟨cs', h1, h2⟩ := hV j (by omega)
    rw [Tryz.cellsBk] at h1
    obtain ⟨_, hlen, hcell⟩ := World.cells?_some h1
    obtain ⟨q, rfl, hq9⟩ := ofBk2 hlen h2
    obtain ⟨p', o', sp⟩ := a'
    cases sp with
    | some r =>
      exfalso
      obtain ⟨cs0, g1, g2⟩ := hV 0 (by omega)
      rw [Tryz.cellsBk] at g1
      obtain ⟨_, glen, gcell⟩ := World.cells?_some g1
      obtain ⟨q0, rfl, _⟩ := ofBk2 glen g2
      have h0 := gcell 0 (by omega)
      rw [Nat.zero_mul, show Addr.add (Addr.add ⟨p', o', some r⟩ 0) 0 = ⟨p', o', some r⟩ from rfl] at h0
      unfold World.cell? at h0
      split at h0
      · simp [Bk.cs] at h0
      · cases h0
    | none =>
      have ea : ∀ i k : Nat, Addr.add (Addr.add ⟨p', o', none⟩ i) k = ⟨p', o' + i + k, none⟩ := fun i k => by
        have ea1 : ∀ (o k : Nat), Addr.add ⟨p', o, none⟩ k = ⟨p', o + k, none⟩ := fun o k => by unfold Addr.add; split <;> simp_all
        rw [ea1, ea1]
      have hall : ∀ i v, (KBk.cs q)[i]? = some v → W.cell? ⟨p', o' + j * KBk.k + i, none⟩ = some v := fun i v hv => by
        have hi : i < 5 := by
          rcases Nat.lt_or_ge i (KBk.cs q).length with h1 | h1
          · exact h1
          · rw [List.getElem?_eq_none h1] at hv; cases hv
        have e0 := hcell i hi
        rw [ea] at e0
        exact e0.trans hv
      exact ⟨p', o', q, rfl, World.block_lt_of_cell? W _ (hall 0 _ rfl), hall, hq9⟩

/-- How many bytes the owners have. -/
def sumT : List Bk → Nat
  | [] => 0
  | q :: t => q.t.size + sumT t
theorem sumT_app : ∀ xs ys : List Bk, sumT (xs ++ ys) = sumT xs + sumT ys
  | [], ys => by simp [sumT]
  | q :: t, ys => by simp [sumT, sumT_app t ys]; omega
theorem sumT_next {bs : List Bk} {k : Nat} {q : Bk} (h : bs[k]? = some q) : sumT (bs.take (k + 1)) = sumT (bs.take k) + q.t.size := by
  rw [List.take_add_one, h, sumT_app]; simp [sumT]
theorem sumT_le (bs : List Bk) (k : Nat) : sumT (bs.take k) ≤ sumT bs := by
  conv => rhs; rw [← List.take_append_drop k bs, sumT_app]
  omega

def szO (l : Int) (n : Nat) : Int := if l - (n : Int) < 0 then -1 else l - (n : Int)
def szB (n s : Nat) (l : Int) : Int := if (n : Int) + (s : Int) ≤ l then l - n - s else -1
def szT (t : Int) : Int := if t ≤ 1048576 then 1048576 - t else -1
theorem szO_yes {l : Int} {n : Nat} (h : l - (n : Int) < 0) : szO l n = -1 := by unfold szO; rw [if_pos h]
theorem szO_no {l : Int} {n : Nat} (h : ¬ l - (n : Int) < 0) : szO l n = l - (n : Int) := by unfold szO; rw [if_neg h]
theorem szB_yes {n s : Nat} {l : Int} (h : (n : Int) + (s : Int) ≤ l) : szB n s l = l - n - s := by unfold szB; rw [if_pos h]
theorem szB_no {n s : Nat} {l : Int} (h : ¬ (n : Int) + (s : Int) ≤ l) : szB n s l = -1 := by unfold szB; rw [if_neg h]
theorem szT_yes {t : Int} (h : t ≤ 1048576) : szT t = 1048576 - t := by unfold szT; rw [if_pos h]
theorem szT_no {t : Int} (h : ¬ t ≤ 1048576) : szT t = -1 := by unfold szT; rw [if_neg h]

set_option maxHeartbeats 400000 in
theorem szBlock_any (q : Bk) (l : Int) (h0 : 0 ≤ l) (h1 : l ≤ 1048576) (h9 : q.t.size ≤ 9223372036854775807) (w : World) :
    Calls Tryz.prog 59 #[.agg #[.bool q.p.s, .int .i64 q.p.H.toInt, .int .i64 q.p.L.toInt, .int .i64 q.p.b, .string q.t], .int .i64 l] w fun e w' => e = .returned (.int .i64 (szO l q.t.size)) ∧ Below w.heap.size w w' := by
  by_cases hd : l - (q.t.size : Int) < 0
  · rw [szO_yes hd]
    go_enter Tryz.func59, Tryz.ntmps59
    go_wp2
    go_ret
    exact ⟨rfl, (Below.refl _ _).alloc (Nat.le_refl _) _⟩
  · rw [szO_no hd]
    have hd2 : decide (l - (q.t.size : Int) < 0) = false := decide_eq_false hd
    go_enter Tryz.func59, Tryz.ntmps59
    go_wp2
    go_ret
    exact ⟨rfl, (Below.refl _ _).alloc (Nat.le_refl _) _⟩

set_option maxHeartbeats 1000000 in
theorem szBlockS_any (a : Option Addr) (n cap : Nat) (bs : List Bk) (l : Int) (h0 : 0 ≤ l) (h1 : l ≤ 1048576) (w : World) (hn : n = bs.length) (hB : RowG KBk w a bs) (h9 : n ≤ 9223372036854775807) (hst : ∀ q ∈ bs, q.t.size ≤ 9223372036854775807) :
    Calls Tryz.prog 32 #[.slice a n cap, .int .i64 l] w fun e w' => e = .returned (.int .i64 (szB n (sumT bs) l)) ∧ Below w.heap.size w w' := by
  have HB := hidP hB
  have HN := hidP hn
  have HST := hidP hst
  clear hB hn hst
  by_cases hnl : l < (n : Int)
  · rw [szB_no (by omega)]
    have d1 : decide (l - (n : Int) < 0) = true := decide_eq_true (by omega)
    go_enter Tryz.func32, Tryz.ntmps32
    go_wp2
    go_ret
    exact ⟨rfl, Below.refl _ _⟩
  · have d1 : decide (l - (n : Int) < 0) = false := decide_eq_false (by omega)
    have d2 : ¬ (l - (n : Int) < 0) := by omega
    go_enter Tryz.func32, Tryz.ntmps32
    go_wp2_with fail
    go_loopw [1, 5] (fun t1 t5 wr => ∃ (k : Nat) (z : Int), k ≤ n ∧ t5 = .int .i64 k ∧ t1 = .int .i64 z ∧ z = l - n - sumT (bs.take k) ∧ 0 ≤ z ∧ Below w.heap.size w wr) (fun _ t5 _ => n - (intOf t5).toNat)
    case atStart => exact ⟨0, l - n, Nat.zero_le _, rfl, rfl, by simp [sumT], by omega, Below.refl _ _⟩
    case round =>
      obtain ⟨k, z, hk, rfl, rfl, hz, hz0, hbel⟩ := hrel
      by_cases hlt : k < n
      · obtain ⟨p, o, q, rfl, hp, hq, c0, c1, c2, c3, c4⟩ := rowBk HB.out k (by rw [← HN.out]; exact hlt)
        have d0 := (hbel.cell hp).trans c0
        have d1 := (hbel.cell hp).trans c1
        have d2 := (hbel.cell hp).trans c2
        have d3 := (hbel.cell hp).trans c3
        have d4 := (hbel.cell hp).trans c4
        have HBel := hidP hbel
        have HNx := hidP (sumT_next hq)
        have HLe := hidP (sumT_le bs (k + 1))
        have hz1 : z ≤ 1048576 := by omega
        have HZ := hidP hz
        have HS := hidP (szBlock_any q z hz0 hz1 (HST.out q (List.mem_of_getElem? hq)))
        clear c0 c1 c2 c3 c4 hq hbel hz
        by_cases hd : z - (q.t.size : Int) < 0
        · rw [szO_yes hd] at HS
          have HF : Hid (¬ ((n : Int) + (sumT bs : Int) ≤ l)) := hidP (by have := HZ.out; have := HNx.out; have := HLe.out; omega)
          go_wp2_with fail
          refine (HS.out _).mono ?_
          rintro e w2 ⟨rfl, hb2⟩
          have HB2 := hidP (HBel.out.trans (hb2.mono HBel.out.size))
          clear hb2 HBel d0 d1 d2 d3 d4
          go_wp2_with fail
          go_ret
          exact ⟨ret_i (szB_no (by have := HF.out; omega)).symm, HB2.out⟩
        · rw [szO_no hd] at HS
          have hd2 : decide (z - (q.t.size : Int) < 0) = false := decide_eq_false hd
          go_wp2_with fail
          refine (HS.out _).mono ?_
          rintro e w2 ⟨rfl, hb2⟩
          have HB2 := hidP (HBel.out.trans (hb2.mono HBel.out.size))
          clear hb2 HBel d0 d1 d2 d3 d4
          go_wp2_with fail
          go_roundw
          case rel => exact ⟨k + 1, z - (q.t.size : Int), by omega, by go_num, rfl, by have := HZ.out; have := HNx.out; omega, by omega, HB2.out⟩
          case measure => simp [intOf]; omega
      · have hkn : k = n := by omega
        have HF : Hid ((n : Int) + (sumT bs : Int) ≤ l ∧ z = l - n - sumT bs) := by
          rw [List.take_of_length_le (by have := HN.out; omega)] at hz
          exact hidP ⟨by omega, hz⟩
        have HBel := hidP hbel
        clear hbel hz
        go_wp2_with fail
        go_ret
        exact ⟨ret_i (by rw [szB_yes HF.out.1, ← HF.out.2]), HBel.out⟩

/-- How much of a law's room a plan takes. -/
def totP (ps : List Pl) (bs : List Bk) : Int := ps.length + (bs.length + sumT bs)

set_option maxHeartbeats 1000000 in
theorem szPlan_any (ap : Option Addr) (np cp : Nat) (ab : Option Addr) (nb cb : Nat) (ps : List Pl) (bs : List Bk) (w : World) (hnp : np = ps.length) (hnb : nb = bs.length) (hK : RowG KBk w ab bs) (h9 : np ≤ 9223372036854775807) (h9' : nb ≤ 9223372036854775807) (hst : ∀ q ∈ bs, q.t.size ≤ 9223372036854775807) :
    Calls Tryz.prog 13 #[.agg #[.slice ap np cp, .slice ab nb cb], .int .i64 1048576] w fun e w' => e = .returned (.int .i64 (szT (totP ps bs))) ∧ Below w.heap.size w w' := by
  unfold totP
  rw [← hnp, ← hnb]
  by_cases hl : (np : Int) ≤ 1048576
  · have HP := hidP (szPoolS_any ap np cp 1048576 hl (Int.le_refl _))
    have HBk := hidP (fun W h => szBlockS_any ab nb cb bs (1048576 - np) (by omega) (by omega) W hnb (hK.later h) h9' hst)
    have hz0 : ¬ (1048576 - (np : Int) < 0) := by omega
    have hz1 : decide (1048576 - (np : Int) < 0) = false := decide_eq_false hz0
    clear hK hnp hnb hst
    by_cases ht : (nb : Int) + (sumT bs : Int) ≤ 1048576 - np
    · rw [szB_yes ht] at HBk
      rw [szT_yes (by omega)]
      have hz2 : decide (1048576 - (np : Int) - (nb : Int) - (sumT bs : Int) < 0) = false := decide_eq_false (by omega)
      generalize he : (1048576 - (np : Int) - (nb : Int) - (sumT bs : Int)) = z at *
      have hz3 : ¬ z < 0 := by omega
      have HE := hidP he
      clear he
      go_enter Tryz.func13, Tryz.ntmps13
      go_wp2_with fail
      obtain ⟨u0, u1⟩ := box2 (u := .slice ap np cp) (v := .slice ab nb cb) w 25
      have uB := alloc_below w (.cells #[.slice ap np cp, .slice ab nb cb] 25)
      have uL := alloc_lt w (.cells #[.slice ap np cp, .slice ab nb cb] 25)
      have uS : (w.alloc (.cells #[.slice ap np cp, .slice ab nb cb] 25)).heap.size = w.heap.size + 1 := by simp
      generalize w.alloc (.cells #[.slice ap np cp, .slice ab nb cb] 25) = W1 at *
      have HU := hidP uB
      refine (HP.out _).mono ?_
      rintro e w1 ⟨rfl, rfl⟩
      clear uB uS
      go_wp2_with fail
      refine (HBk.out _ HU.out).mono ?_
      rintro e w2 ⟨rfl, hb2⟩
      have HB2 := hidP hb2
      clear hb2
      go_wp2_with fail
      go_ret
      exact ⟨ret_i (by have := HE.out; omega), HU.out.trans (HB2.out.mono HU.out.size)⟩
    · rw [szB_no ht] at HBk
      rw [szT_no (by omega)]
      go_enter Tryz.func13, Tryz.ntmps13
      go_wp2_with fail
      obtain ⟨u0, u1⟩ := box2 (u := .slice ap np cp) (v := .slice ab nb cb) w 25
      have uB := alloc_below w (.cells #[.slice ap np cp, .slice ab nb cb] 25)
      have uL := alloc_lt w (.cells #[.slice ap np cp, .slice ab nb cb] 25)
      have uS : (w.alloc (.cells #[.slice ap np cp, .slice ab nb cb] 25)).heap.size = w.heap.size + 1 := by simp
      generalize w.alloc (.cells #[.slice ap np cp, .slice ab nb cb] 25) = W1 at *
      have HU := hidP uB
      refine (HP.out _).mono ?_
      rintro e w1 ⟨rfl, rfl⟩
      clear uB uS
      go_wp2_with fail
      refine (HBk.out _ HU.out).mono ?_
      rintro e w2 ⟨rfl, hb2⟩
      have HB2 := hidP hb2
      clear hb2
      go_wp2_with fail
      go_ret
      exact ⟨rfl, HU.out.trans (HB2.out.mono HU.out.size)⟩
  · have HP := hidP (szPoolS_big ap np cp 1048576 (by omega) (by omega) h9)
    rw [szT_no (by omega)]
    clear hK hnp hnb hst
    go_enter Tryz.func13, Tryz.ntmps13
    go_wp2_with fail
    refine (HP.out _).mono ?_
    rintro e w1 ⟨rfl, rfl⟩
    go_wp2_with fail
    go_ret
    exact ⟨rfl, (Below.refl _ _).alloc (Nat.le_refl _) _⟩

set_option maxHeartbeats 1000000 in
theorem toPlan_any (ap : Option Addr) (np cp : Nat) (ab : Option Addr) (nb cb : Nat) (ps : List Pl) (bs : List Bk) (w : World) (hnp : np = ps.length) (hnb : nb = bs.length) (hP : RowG KPl w ap ps) (hK : RowG KBk w ab bs) (hl : np ≤ 1048576) (hl' : nb ≤ 1048576) :
    Calls Tryz.prog 20 #[.agg #[.slice ap np cp, .slice ab nb cb]] w fun e w' => ∃ g h, e = .returned (.agg #[.slice (some ⟨g, 0, none⟩) np np, .slice (some ⟨h, 0, none⟩) nb nb]) ∧ OwnG KPl 86 w' w.heap.size (.slice (some ⟨g, 0, none⟩) np np) ps ∧ OwnG KBk 67 w' w.heap.size (.slice (some ⟨h, 0, none⟩) nb nb) bs ∧ g ≠ h ∧ Below w.heap.size w w' := by
  have HTP := hidP (fun W h => toPoolS_any ap np cp ps W hnp (hP.later h) hl)
  have HTB := hidP (fun W h => toBlockS_any ab nb cb bs W hnb (hK.later h) hl')
  clear hP hK hnp hnb
  go_enter Tryz.func20, Tryz.ntmps20
  go_wp2_with fail
  refine (HTP.out _ ?_).mono ?_
  · repeat (first | with_reducible exact Below.refl _ _ | (with_reducible refine Below.drew ?_) | (with_reducible refine Below.alloc ?_ ?_ _; rotate_left; (focus (first | omega | (simp; omega) | (simp; done)))) | (with_reducible refine Below.setCell ?_ ?_ _; rotate_left; (focus (first | omega | (simp; omega) | (simp; done)))))
  rintro e w1 ⟨g, rfl, og, hb1⟩
  have hz1 := hb1.size
  try simp at hz1
  have hgl := OwnG.lt og g rfl
  try simp at hgl
  have f10 : w.heap.size < w1.heap.size := by omega
  have f11 : w.heap.size + 1 < w1.heap.size := by omega
  have f12 : w.heap.size + 2 < w1.heap.size := by omega
  refine olds_k (w.heap.size + 3) hb1 ?_ ?_
  · first | omega | (simp; omega) | (simp; done)
  intro hc1 hf1
  have OG := hidP og
  clear og
  go_wp2_with fail
  refine (HTB.out _ ?_).mono ?_
  · repeat (first | with_reducible exact Below.refl _ _ | (with_reducible refine Below.drew ?_) | (with_reducible refine Below.alloc ?_ ?_ _; rotate_left; (focus (first | omega | (simp; omega) | (simp; done)))) | (with_reducible refine Below.setCell ?_ ?_ _; rotate_left; (focus (first | omega | (simp; omega) | (simp; done)))) | (with_reducible refine Below.trans ?_ (hb1.mono ?_); rotate_left; (focus (first | omega | (simp; omega) | (simp; done)))))
  rintro e w2 ⟨h, rfl, oh, hb2⟩
  have hz2 := hb2.size
  try simp at hz2
  have hhl := OwnG.lt oh h rfl
  try simp at hhl
  have f20 : w.heap.size < w2.heap.size := by omega
  have f21 : w.heap.size + 1 < w2.heap.size := by omega
  have f22 : w.heap.size + 2 < w2.heap.size := by omega
  refine olds_k (w1.heap.size) hb2 ?_ ?_
  · first | omega | (simp; omega) | (simp; done)
  intro hc2 hf2
  have OH := hidP oh
  clear oh
  have OG2 := hidP ((OwnG.grown OG.out (grown_cellG w1 (w.heap.size + 2) 0 (.slice (some ⟨g, 0, none⟩) np np)) (fun k hk => by simp [Value.ownBlock] at hk; subst hk; intro hh; simp at hh; omega)).later hb2)
  have hgh : g ≠ h := by omega
  have q0 : w2.cell? ⟨w.heap.size + 1, 0, none⟩ = some (.slice none 0 0) := by rw [hc2 _ _ f11]; simp [go_sem, hc1]
  have q1 : w2.cell? ⟨w.heap.size + 1, 1, none⟩ = some (.slice none 0 0) := by rw [hc2 _ _ f11]; simp [go_sem, hc1]
  go_wp2_with fail
  refine bodyPost_ret (v := .agg #[.slice (some ⟨g, 0, none⟩) np np, .slice (some ⟨h, 0, none⟩) nb nb]) (by simp [results, Tryz.results20, go_sem, q0, q1]) rfl ⟨g, h, rfl, ?_, ?_, hgh, ?_⟩
  · have o1 := OwnG.grown OG2.out (grown_cellG w2 (w.heap.size + 1 + 1) 1 (.slice (some ⟨h, 0, none⟩) nb nb)) (fun k hk => by simp [Value.ownBlock] at hk; subst hk; intro hh; simp at hh; omega)
    have o2 := OwnG.grown o1 (grown_cellG _ (w.heap.size + 1) 0 (.slice (some ⟨g, 0, none⟩) np np)) (fun k hk => by simp [Value.ownBlock] at hk; subst hk; intro hh; simp at hh; omega)
    have o3 := OwnG.grown o2 (grown_cellG _ (w.heap.size + 1) 1 (.slice (some ⟨h, 0, none⟩) nb nb)) (fun k hk => by simp [Value.ownBlock] at hk; subst hk; intro hh; simp at hh; omega)
    exact o3.mono (by simp; omega)
  · have o1 := OwnG.grown OH.out (grown_cellG w2 (w.heap.size + 1 + 1) 1 (.slice (some ⟨h, 0, none⟩) nb nb)) (fun k hk => by simp [Value.ownBlock] at hk; subst hk; intro hh; simp at hh; omega)
    have o2 := OwnG.grown o1 (grown_cellG _ (w.heap.size + 1) 0 (.slice (some ⟨g, 0, none⟩) np np)) (fun k hk => by simp [Value.ownBlock] at hk; subst hk; intro hh; simp at hh; omega)
    have o3 := OwnG.grown o2 (grown_cellG _ (w.heap.size + 1) 1 (.slice (some ⟨h, 0, none⟩) nb nb)) (fun k hk => by simp [Value.ownBlock] at hk; subst hk; intro hh; simp at hh; omega)
    exact o3.mono (by simp; omega)
  · repeat (first | with_reducible exact Below.refl _ _ | (with_reducible refine Below.drew ?_) | (with_reducible refine Below.alloc ?_ ?_ _; rotate_left; (focus (first | omega | (simp; omega) | (simp; done)))) | (with_reducible refine Below.setCell ?_ ?_ _; rotate_left; (focus (first | omega | (simp; omega) | (simp; done)))) | (with_reducible refine Below.trans ?_ (hb2.mono ?_); rotate_left; (focus (first | omega | (simp; omega) | (simp; done)))) | (with_reducible refine Below.trans ?_ (hb1.mono ?_); rotate_left; (focus (first | omega | (simp; omega) | (simp; done)))))

set_option maxHeartbeats 1000000 in
theorem eqPlan_same (ap ap' : Option Addr) (np cp cp' : Nat) (ab ab' : Option Addr) (nb cb cb' : Nat) (ps : List Pl) (bs : List Bk) (w : World) (hnp : np = ps.length) (hnb : nb = bs.length) (hP : RowG KPl w ap ps) (hP' : RowG KPl w ap' ps) (hK : RowG KBk w ab bs) (hK' : RowG KBk w ab' bs) (hl : np ≤ 9000000000) (hl' : nb ≤ 9000000000) :
    Calls Tryz.prog 27 #[.agg #[.slice ap np cp, .slice ab nb cb], .agg #[.slice ap' np cp', .slice ab' nb cb']] w fun e w' => e = .returned (.bool true) ∧ Below w.heap.size w w' := by
  have HTP := hidP (fun W h => eqPoolS_same ap ap' np cp cp' ps W hnp (hP.later h) (hP'.later h) hl)
  have HTB := hidP (fun W h => eqBlockS_same ab ab' nb cb cb' bs W hnb (hK.later h) (hK'.later h) hl')
  clear hP hP' hK hK' hnp hnb
  go_enter Tryz.func27, Tryz.ntmps27
  go_wp2_with fail
  refine (HTP.out _ ?_).mono ?_
  · repeat (first | with_reducible exact Below.refl _ _ | (with_reducible refine Below.drew ?_) | (with_reducible refine Below.alloc ?_ ?_ _; rotate_left; (focus (first | omega | (simp; omega) | (simp; done)))) | (with_reducible refine Below.setCell ?_ ?_ _; rotate_left; (focus (first | omega | (simp; omega) | (simp; done)))))
  rintro e w1 ⟨rfl, hb1⟩
  have hz1 := hb1.size
  try simp at hz1
  have f10 : w.heap.size < w1.heap.size := by omega
  have f11 : w.heap.size + 1 < w1.heap.size := by omega
  refine olds_k (w.heap.size + 2) hb1 ?_ ?_
  · first | omega | (simp; omega) | (simp; done)
  intro hc1 hf1
  go_wp2_with fail
  refine (HTB.out _ ?_).mono ?_
  · repeat (first | with_reducible exact Below.refl _ _ | (with_reducible refine Below.drew ?_) | (with_reducible refine Below.alloc ?_ ?_ _; rotate_left; (focus (first | omega | (simp; omega) | (simp; done)))) | (with_reducible refine Below.setCell ?_ ?_ _; rotate_left; (focus (first | omega | (simp; omega) | (simp; done)))) | (with_reducible refine Below.trans ?_ (hb1.mono ?_); rotate_left; (focus (first | omega | (simp; omega) | (simp; done)))))
  rintro e w2 ⟨rfl, hb2⟩
  go_wp2_with fail
  go_ret
  refine ⟨rfl, ?_⟩
  repeat (first | with_reducible exact Below.refl _ _ | (with_reducible refine Below.drew ?_) | (with_reducible refine Below.alloc ?_ ?_ _; rotate_left; (focus (first | omega | (simp; omega) | (simp; done)))) | (with_reducible refine Below.setCell ?_ ?_ _; rotate_left; (focus (first | omega | (simp; omega) | (simp; done)))) | (with_reducible refine Below.trans ?_ (hb2.mono ?_); rotate_left; (focus (first | omega | (simp; omega) | (simp; done)))) | (with_reducible refine Below.trans ?_ (hb1.mono ?_); rotate_left; (focus (first | omega | (simp; omega) | (simp; done)))))

end Go.Proofs.YtplocbpngikohaaGreat
namespace Go.Proofs.YtplocbpngikohaaGreat
open Go.RowKit

theorem lpF_at (p : Pf) (ps : List Pl) (k : Nat) (q : Pl) (h : ps[k]? = some q) : lpF p k (ps.drop k) = if winP p q.p = true then (k : Int) else lpF p ((k + 1 : Nat) : Int) (ps.drop (k + 1)) := by
  rw [drop_at h]; rfl

set_option maxRecDepth 10000 in
set_option maxHeartbeats 1000000 in
theorem l5Pool_any (pt : Pf) (ap : Option Addr) (np cp : Nat) (ab : Option Addr) (nb cb : Nat) (ps : List Pl) (w : World) (hnp : np = ps.length) (hP : RowG KPl w ap ps) (hlp : np ≤ 9000000000) :
    Calls Tryz.prog 38 #[.agg #[.slice ap np cp, .slice ab nb cb], .agg #[.bool pt.s, .int .i64 pt.H.toInt, .int .i64 pt.L.toInt, .int .i64 pt.b]] w fun e w' => e = .returned (.int .i64 (lpF pt 0 ps)) ∧ Below w.heap.size w w' := by
  have HBP := hidP hP
  have HN := hidP hnp
  clear hP hnp
  go_enter Tryz.func38, Tryz.ntmps38
  go_wp2_with fail
  obtain ⟨u0, u1⟩ := box2 (u := .slice ap np cp) (v := .slice ab nb cb) w 39
  have uB := alloc_below w (.cells #[.slice ap np cp, .slice ab nb cb] 39)
  have uL := alloc_lt w (.cells #[.slice ap np cp, .slice ab nb cb] 39)
  have uS : (w.alloc (.cells #[.slice ap np cp, .slice ab nb cb] 39)).heap.size = w.heap.size + 1 := by simp
  generalize w.alloc (.cells #[.slice ap np cp, .slice ab nb cb] 39) = W1 at *
  obtain ⟨y0, y1, y2, y3⟩ := box4 (p := pt) W1 65
  have yB := alloc_below W1 (.cells #[.bool pt.s, .int .i64 pt.H.toInt, .int .i64 pt.L.toInt, .int .i64 pt.b] 65)
  have yL := alloc_lt W1 (.cells #[.bool pt.s, .int .i64 pt.H.toInt, .int .i64 pt.L.toInt, .int .i64 pt.b] 65)
  have yS : (W1.alloc (.cells #[.bool pt.s, .int .i64 pt.H.toInt, .int .i64 pt.L.toInt, .int .i64 pt.b] 65)).heap.size = W1.heap.size + 1 := by simp
  generalize W1.alloc (.cells #[.bool pt.s, .int .i64 pt.H.toInt, .int .i64 pt.L.toInt, .int .i64 pt.b] 65) = W2 at *
  rw [uS] at y0 y1 y2 y3 yL yS
  have s0 := (yB.cell uL).trans u0
  have sL : w.heap.size < W2.heap.size := by omega
  have HUB := hidP (uB.trans (yB.mono uB.size))
  have HP2 := hidP (HBP.out.later HUB.out)
  clear uB yB uS yS u0 u1 HBP uL
  go_loopw [5] (fun t5 wr => ∃ k : Nat, k ≤ np ∧ t5 = .int .i64 k ∧ lpF pt 0 ps = lpF pt k (ps.drop k) ∧ Below W2.heap.size W2 wr) (fun t5 _ => np - (intOf t5).toNat)
  case atStart => exact ⟨0, Nat.zero_le _, rfl, rfl, Below.refl _ _⟩
  case round =>
    obtain ⟨k, hk, rfl, hix, hbel⟩ := hrel
    by_cases hlt : k < np
    · obtain ⟨p, o, q, rfl, hp, hq, c0, c1, c2, c3, c4⟩ := rowPl HP2.out k (by rw [← HN.out]; exact hlt)
      have d0 := (hbel.cell hp).trans c0
      have d1 := (hbel.cell hp).trans c1
      have d2 := (hbel.cell hp).trans c2
      have d3 := (hbel.cell hp).trans c3
      have dL : p < wr.heap.size := Nat.lt_of_lt_of_le hp hbel.size
      have v0 := (hbel.cell sL).trans s0
      have vL : w.heap.size < wr.heap.size := Nat.lt_of_lt_of_le sL hbel.size
      have r0 := (hbel.cell yL).trans y0
      have r1 := (hbel.cell yL).trans y1
      have r2 := (hbel.cell yL).trans y2
      have r3 := (hbel.cell yL).trans y3
      have rL : w.heap.size + 1 < wr.heap.size := Nat.lt_of_lt_of_le yL hbel.size
      have hst := lpF_at pt ps k q hq
      rw [hst] at hix
      have HX := hidP hix
      have HBel := hidP hbel
      have HWi := hidP (sWithin_any pt.s pt.H pt.L pt.b q.p.s q.p.H q.p.L q.p.b)
      change Hid (∀ w, Calls Tryz.prog 63 _ w fun e w' => e = .returned (.bool (winP pt q.p)) ∧ Below w.heap.size w w') at HWi
      clear c0 c1 c2 c3 c4 hq hix hst hbel
      cases hw : winP pt q.p
      · rw [hw] at HX HWi
        go_wp2_with fail
        have HSx : Hid (∀ x, Below wr.heap.size wr x → (x.cell? ⟨p, o + k * 5, none⟩ = some (.bool q.p.s) ∧ x.cell? ⟨p, o + k * 5 + 1, none⟩ = some (.int .i64 q.p.H.toInt) ∧ x.cell? ⟨p, o + k * 5 + 2, none⟩ = some (.int .i64 q.p.L.toInt) ∧ x.cell? ⟨p, o + k * 5 + 3, none⟩ = some (.int .i64 q.p.b) ∧ x.cell? ⟨w.heap.size, 0, none⟩ = some (.slice (some ⟨p, o, none⟩) np cp) ∧ x.cell? ⟨w.heap.size + 1, 0, none⟩ = some (.bool pt.s) ∧ x.cell? ⟨w.heap.size + 1, 1, none⟩ = some (.int .i64 pt.H.toInt) ∧ x.cell? ⟨w.heap.size + 1, 2, none⟩ = some (.int .i64 pt.L.toInt) ∧ x.cell? ⟨w.heap.size + 1, 3, none⟩ = some (.int .i64 pt.b) ∧ Below wr.heap.size wr x)) := hidP fun x h =>
          ⟨(h.cell dL).trans d0, (h.cell dL).trans d1, (h.cell dL).trans d2, (h.cell dL).trans d3, (h.cell vL).trans v0, (h.cell rL).trans r0, (h.cell rL).trans r1, (h.cell rL).trans r2, (h.cell rL).trans r3, h⟩
        refine wp_region_held_drew (S := (fun x => x.cell? ⟨p, o + k * 5, none⟩ = some (.bool q.p.s) ∧ x.cell? ⟨p, o + k * 5 + 1, none⟩ = some (.int .i64 q.p.H.toInt) ∧ x.cell? ⟨p, o + k * 5 + 2, none⟩ = some (.int .i64 q.p.L.toInt) ∧ x.cell? ⟨p, o + k * 5 + 3, none⟩ = some (.int .i64 q.p.b) ∧ x.cell? ⟨w.heap.size, 0, none⟩ = some (.slice (some ⟨p, o, none⟩) np cp) ∧ x.cell? ⟨w.heap.size + 1, 0, none⟩ = some (.bool pt.s) ∧ x.cell? ⟨w.heap.size + 1, 1, none⟩ = some (.int .i64 pt.H.toInt) ∧ x.cell? ⟨w.heap.size + 1, 2, none⟩ = some (.int .i64 pt.L.toInt) ∧ x.cell? ⟨w.heap.size + 1, 3, none⟩ = some (.int .i64 pt.b) ∧ Below wr.heap.size wr x)) (by kernel_rfl) ?_ (fun hHeld => ?_)
        · try dsimp only
          exact HSx.out _ (Below.refl _ _).drew
        refine tkA 0 13 (v := ?_) rfl (by kernel_rfl) (fun _ _ _ h => h) (by rfl) ?_ (by assumption) ?_; rotate_left; · (intro w hSw; (try dsimp only at hSw); go_simp; try with_reducible rfl)
        simp only [pa]
        refine tkA 1 14 (v := ?_) rfl (by kernel_rfl) (fun _ _ _ h => h) (by rfl) ?_ (by assumption) ?_; rotate_left; · (intro w hSw; (try dsimp only at hSw); go_simp; try with_reducible rfl)
        simp only [pa]
        refine tkA 2 15 (v := ?_) rfl (by kernel_rfl) (fun _ _ _ h => h) (by rfl) ?_ (by assumption) ?_; rotate_left; · (intro w hSw; (try dsimp only at hSw); go_simp; try with_reducible rfl)
        simp only [pa]
        refine tkA 3 16 (v := ?_) rfl (by kernel_rfl) (fun _ _ _ h => h) (by rfl) ?_ (by assumption) ?_; rotate_left; · (intro w hSw; (try dsimp only at hSw); go_simp; try with_reducible rfl)
        simp only [pa]
        refine tkA 4 17 (v := ?_) rfl (by kernel_rfl) (fun _ _ _ h => h) (by rfl) ?_ (by assumption) ?_; rotate_left; · (intro w hSw; (try dsimp only at hSw); go_simp; try with_reducible rfl)
        simp only [pa]
        refine tkA 5 18 (v := ?_) rfl (by kernel_rfl) (fun _ _ _ h => h) (by rfl) ?_ (by assumption) ?_; rotate_left; · (intro w hSw; (try dsimp only at hSw); go_simp; try with_reducible rfl)
        simp only [pa]
        refine tkA 6 19 (v := ?_) rfl (by kernel_rfl) (fun _ _ _ h => h) (by rfl) ?_ (by assumption) ?_; rotate_left; · (intro w hSw; (try dsimp only at hSw); go_simp; try with_reducible rfl)
        simp only [pa]
        refine wpAnyH_ready (rs := [7]) (by kernel_rfl) (by simp) ?_
        refine AllReadyH.cons rfl (fun K hK => ?_) AllReadyH.nil
        go_simp
        go_wp2_with (first | (go_at_call 63; refine (HWi.out _).mono ?_; rintro e w2 ⟨rfl, hb2⟩; have b2 := (hHeld.2.2.2.2.2.2.2.2.2).trans (hb2.mono (hHeld.2.2.2.2.2.2.2.2.2).size)))
        refine hK.out _ _ ?_ (fun hHeld => ?_)
        · try dsimp only
          exact HSx.out _ b2
        clear hK K
        have HE := hidP (hHeld.2.2.2.2.2.2.2.2.2)
        refine wpAnyH_done (by kernel_rfl) ?_ _
        clear hHeld
        go_wp2_with fail
        go_roundw
        case rel => exact ⟨k + 1, by omega, by go_num, by rw [HX.out]; simp, HBel.out.trans (HE.out.mono HBel.out.size)⟩
        case measure => simp [intOf]; omega
      · rw [hw] at HX HWi
        go_wp2_with fail
        have HSx : Hid (∀ x, Below wr.heap.size wr x → (x.cell? ⟨p, o + k * 5, none⟩ = some (.bool q.p.s) ∧ x.cell? ⟨p, o + k * 5 + 1, none⟩ = some (.int .i64 q.p.H.toInt) ∧ x.cell? ⟨p, o + k * 5 + 2, none⟩ = some (.int .i64 q.p.L.toInt) ∧ x.cell? ⟨p, o + k * 5 + 3, none⟩ = some (.int .i64 q.p.b) ∧ x.cell? ⟨w.heap.size, 0, none⟩ = some (.slice (some ⟨p, o, none⟩) np cp) ∧ x.cell? ⟨w.heap.size + 1, 0, none⟩ = some (.bool pt.s) ∧ x.cell? ⟨w.heap.size + 1, 1, none⟩ = some (.int .i64 pt.H.toInt) ∧ x.cell? ⟨w.heap.size + 1, 2, none⟩ = some (.int .i64 pt.L.toInt) ∧ x.cell? ⟨w.heap.size + 1, 3, none⟩ = some (.int .i64 pt.b) ∧ Below wr.heap.size wr x)) := hidP fun x h =>
          ⟨(h.cell dL).trans d0, (h.cell dL).trans d1, (h.cell dL).trans d2, (h.cell dL).trans d3, (h.cell vL).trans v0, (h.cell rL).trans r0, (h.cell rL).trans r1, (h.cell rL).trans r2, (h.cell rL).trans r3, h⟩
        refine wp_region_held_drew (S := (fun x => x.cell? ⟨p, o + k * 5, none⟩ = some (.bool q.p.s) ∧ x.cell? ⟨p, o + k * 5 + 1, none⟩ = some (.int .i64 q.p.H.toInt) ∧ x.cell? ⟨p, o + k * 5 + 2, none⟩ = some (.int .i64 q.p.L.toInt) ∧ x.cell? ⟨p, o + k * 5 + 3, none⟩ = some (.int .i64 q.p.b) ∧ x.cell? ⟨w.heap.size, 0, none⟩ = some (.slice (some ⟨p, o, none⟩) np cp) ∧ x.cell? ⟨w.heap.size + 1, 0, none⟩ = some (.bool pt.s) ∧ x.cell? ⟨w.heap.size + 1, 1, none⟩ = some (.int .i64 pt.H.toInt) ∧ x.cell? ⟨w.heap.size + 1, 2, none⟩ = some (.int .i64 pt.L.toInt) ∧ x.cell? ⟨w.heap.size + 1, 3, none⟩ = some (.int .i64 pt.b) ∧ Below wr.heap.size wr x)) (by kernel_rfl) ?_ (fun hHeld => ?_)
        · try dsimp only
          exact HSx.out _ (Below.refl _ _).drew
        refine tkA 0 13 (v := ?_) rfl (by kernel_rfl) (fun _ _ _ h => h) (by rfl) ?_ (by assumption) ?_; rotate_left; · (intro w hSw; (try dsimp only at hSw); go_simp; try with_reducible rfl)
        simp only [pa]
        refine tkA 1 14 (v := ?_) rfl (by kernel_rfl) (fun _ _ _ h => h) (by rfl) ?_ (by assumption) ?_; rotate_left; · (intro w hSw; (try dsimp only at hSw); go_simp; try with_reducible rfl)
        simp only [pa]
        refine tkA 2 15 (v := ?_) rfl (by kernel_rfl) (fun _ _ _ h => h) (by rfl) ?_ (by assumption) ?_; rotate_left; · (intro w hSw; (try dsimp only at hSw); go_simp; try with_reducible rfl)
        simp only [pa]
        refine tkA 3 16 (v := ?_) rfl (by kernel_rfl) (fun _ _ _ h => h) (by rfl) ?_ (by assumption) ?_; rotate_left; · (intro w hSw; (try dsimp only at hSw); go_simp; try with_reducible rfl)
        simp only [pa]
        refine tkA 4 17 (v := ?_) rfl (by kernel_rfl) (fun _ _ _ h => h) (by rfl) ?_ (by assumption) ?_; rotate_left; · (intro w hSw; (try dsimp only at hSw); go_simp; try with_reducible rfl)
        simp only [pa]
        refine tkA 5 18 (v := ?_) rfl (by kernel_rfl) (fun _ _ _ h => h) (by rfl) ?_ (by assumption) ?_; rotate_left; · (intro w hSw; (try dsimp only at hSw); go_simp; try with_reducible rfl)
        simp only [pa]
        refine tkA 6 19 (v := ?_) rfl (by kernel_rfl) (fun _ _ _ h => h) (by rfl) ?_ (by assumption) ?_; rotate_left; · (intro w hSw; (try dsimp only at hSw); go_simp; try with_reducible rfl)
        simp only [pa]
        refine wpAnyH_ready (rs := [7]) (by kernel_rfl) (by simp) ?_
        refine AllReadyH.cons rfl (fun K hK => ?_) AllReadyH.nil
        go_simp
        go_wp2_with (first | (go_at_call 63; refine (HWi.out _).mono ?_; rintro e w2 ⟨rfl, hb2⟩; have b2 := (hHeld.2.2.2.2.2.2.2.2.2).trans (hb2.mono (hHeld.2.2.2.2.2.2.2.2.2).size)))
        refine hK.out _ _ ?_ (fun hHeld => ?_)
        · try dsimp only
          exact HSx.out _ b2
        clear hK K
        have HE := hidP (hHeld.2.2.2.2.2.2.2.2.2)
        refine wpAnyH_done (by kernel_rfl) ?_ _
        clear hHeld
        go_wp2_with fail
        go_ret
        exact ⟨ret_i (by rw [HX.out]; simp), HUB.out.trans ((HBel.out.trans (HE.out.mono HBel.out.size)).mono HUB.out.size)⟩
    · have HX : Hid (lpF pt 0 ps = -1) := by
        rw [List.drop_of_length_le (by have := HN.out; omega)] at hix
        exact hidP hix
      have v0 := (hbel.cell sL).trans s0
      have HBel := hidP hbel
      clear hbel hix
      go_wp2_with fail
      go_ret
      exact ⟨ret_i HX.out.symm, HUB.out.trans (HBel.out.mono HUB.out.size)⟩

end Go.Proofs.YtplocbpngikohaaGreat
namespace Go.Proofs.YtplocbpngikohaaGreat
open Go.RowKit

set_option maxHeartbeats 1000000 in
theorem sOverlaps_any (s : Bool) (H L : BitVec 64) (b : Int) (s' : Bool) (H' L' : BitVec 64) (b' : Int) (w : World) :
    Calls Tryz.prog 37 #[.agg #[.bool s, .int .i64 H.toInt, .int .i64 L.toInt, .int .i64 b], .agg #[.bool s', .int .i64 H'.toInt, .int .i64 L'.toInt, .int .i64 b']] w fun e w' => e = .returned (.bool (winB s H L b s' H' L' b' || winB s' H' L' b' s H L b)) ∧ Below w.heap.size w w' := by
  have HW : Hid (∀ w, _) := sWithin_any s H L b s' H' L' b'
  have HX : Hid (∀ w, _) := sWithin_any s' H' L' b' s H L b
  generalize winB s H L b s' H' L' b' = B1 at HW ⊢
  generalize winB s' H' L' b' s H L b = B2 at HX ⊢
  cases B1
  · rw [Bool.false_or]
    go_enter Tryz.func37, Tryz.ntmps37
    go_wp2_with fail
    refine (HW.out _).mono ?_
    rintro e w1 ⟨rfl, hb1⟩
    have hz1 := hb1.size
    try simp at hz1
    have f10 : w.heap.size < w1.heap.size := by omega
    have f11 : w.heap.size + 1 < w1.heap.size := by omega
    refine olds_k (w.heap.size + 2) hb1 ?_ ?_
    · first | omega | (simp; omega) | (simp; done)
    intro hc1 hf1
    go_wp2_with fail
    refine (HX.out _).mono ?_
    rintro e w2 ⟨rfl, hb2⟩
    have hz2 := hb2.size
    try simp at hz2
    have f20 : w.heap.size < w2.heap.size := by omega
    have f21 : w.heap.size + 1 < w2.heap.size := by omega
    refine olds_k (w.heap.size + 2) hb2 ?_ ?_
    · first | omega | (simp; omega) | (simp; done)
    intro hc2 hf2
    go_wp2_with fail
    go_ret
    refine ⟨rfl, ?_⟩
    repeat (first | with_reducible exact Below.refl _ _ | (with_reducible refine Below.drew ?_) | (with_reducible refine Below.alloc ?_ ?_ _; rotate_left; (focus (first | omega | (simp; omega) | (simp; done)))) | (with_reducible refine Below.setCell ?_ ?_ _; rotate_left; (focus (first | omega | (simp; omega) | (simp; done)))) | (with_reducible refine Below.trans ?_ (hb2.mono ?_); rotate_left; (focus (first | omega | (simp; omega) | (simp; done)))) | (with_reducible refine Below.trans ?_ (hb1.mono ?_); rotate_left; (focus (first | omega | (simp; omega) | (simp; done)))))
  · rw [Bool.true_or]
    go_enter Tryz.func37, Tryz.ntmps37
    go_wp2_with fail
    refine (HW.out _).mono ?_
    rintro e w1 ⟨rfl, hb1⟩
    have hz1 := hb1.size
    try simp at hz1
    have f10 : w.heap.size < w1.heap.size := by omega
    have f11 : w.heap.size + 1 < w1.heap.size := by omega
    refine olds_k (w.heap.size + 2) hb1 ?_ ?_
    · first | omega | (simp; omega) | (simp; done)
    intro hc1 hf1
    go_wp2_with fail
    go_ret
    refine ⟨rfl, ?_⟩
    repeat (first | with_reducible exact Below.refl _ _ | (with_reducible refine Below.drew ?_) | (with_reducible refine Below.alloc ?_ ?_ _; rotate_left; (focus (first | omega | (simp; omega) | (simp; done)))) | (with_reducible refine Below.setCell ?_ ?_ _; rotate_left; (focus (first | omega | (simp; omega) | (simp; done)))) | (with_reducible refine Below.trans ?_ (hb1.mono ?_); rotate_left; (focus (first | omega | (simp; omega) | (simp; done)))))

end Go.Proofs.YtplocbpngikohaaGreat
namespace Go.Proofs.YtplocbpngikohaaGreat
open Go.RowKit

theorem lpF_lt (p : Pf) : ∀ (ps : List Pl) (i : Nat), lpF p i ps = -1 ∨ ∃ j q, lpF p i ps = ((i + j : Nat) : Int) ∧ ps[j]? = some q
  | [], _ => Or.inl rfl
  | q :: t, i => by
      unfold lpF
      by_cases h : winP p q.p = true
      · rw [if_pos h]; exact Or.inr ⟨0, q, rfl, rfl⟩
      · rw [if_neg h]
        rcases lpF_lt p t (i + 1) with h' | ⟨j, x, h1, h2⟩
        · exact Or.inl h'
        · refine Or.inr ⟨j + 1, x, ?_, by simpa using h2⟩
          rw [show ((i : Int) + 1) = ((i + 1 : Nat) : Int) by omega, h1]
          congr 1; omega
theorem folB_split {p q : Pf} : folB p q = (decide (cmpP p q < 0) && !ovP p q) := rfl
theorem ge_not {x : Int} {b : Bool} (h : decide (x < 0) = b) : decide (0 ≤ x) = !b := by subst h; rw [← decide_not]; exact decide_eq_decide.mpr (by omega)

set_option maxRecDepth 10000 in
set_option maxHeartbeats 16000000 in
theorem sPlanOk_core (ap : Option Addr) (np cp : Nat) (ab : Option Addr) (nb cb : Nat) (ps : List Pl) (bs : List Bk) (w : World) (hnp : np = ps.length) (hnb : nb = bs.length) (hP : RowG KPl w ap ps) (hK : RowG KBk w ab bs) (hlp : np ≤ 20) (hl : nb ≤ 60) (hst : ∀ q ∈ bs, q.t.size ≤ 9223372036854775807) :
    Calls Tryz.prog 16 #[.agg #[.slice ap np cp, .slice ab nb cb]] w fun e w' => e = .returned (.bool (poolsF none ps && blocksS ps none bs)) ∧ Below w.heap.size w w' := by
  have HBP := hidP hP
  have HBB := hidP hK
  have HNP := hidP hnp
  have HNB := hidP hnb
  have HST := hidP hst
  clear hP hK hnp hnb hst
  go_enter Tryz.func16, Tryz.ntmps16
  go_wp2_with fail
  obtain ⟨u0, u1⟩ := box2 (u := .slice ap np cp) (v := .slice ab nb cb) w 39
  have uB := alloc_below w (.cells #[.slice ap np cp, .slice ab nb cb] 39)
  have uL := alloc_lt w (.cells #[.slice ap np cp, .slice ab nb cb] 39)
  have uS : (w.alloc (.cells #[.slice ap np cp, .slice ab nb cb] 39)).heap.size = w.heap.size + 1 := by simp
  generalize w.alloc (.cells #[.slice ap np cp, .slice ab nb cb] 39) = W1 at *
  have HUB := hidP uB
  have HP1 := hidP (HBP.out.later uB)
  have HB1 := hidP (HBB.out.later uB)
  clear uB uS HBP HBB
  go_loopw [3] (fun t3 wr => ∃ k : Nat, k ≤ np ∧ t3 = .int .i64 k ∧ poolsF none ps = poolsF (prvP ps k) (ps.drop k) ∧ (∀ r, prvP ps k = some r → r.pk = true) ∧ Below W1.heap.size W1 wr) (fun t3 _ => np - (intOf t3).toNat)
  case atStart => exact ⟨0, Nat.zero_le _, rfl, rfl, (fun r h => by cases h), Below.refl _ _⟩
  case round =>
    obtain ⟨k, hk, rfl, hpo, hpr, hbel⟩ := hrel
    have v0 := (hbel.cell uL).trans u0
    have v1 := (hbel.cell uL).trans u1
    have vL : w.heap.size < wr.heap.size := Nat.lt_of_lt_of_le uL hbel.size
    by_cases hlt : k < np
    · obtain ⟨p, o, q, rfl, hp, hq, c0, c1, c2, c3, c4⟩ := rowPl HP1.out k (by rw [← HNP.out]; exact hlt)
      have d0 := (hbel.cell hp).trans c0
      have d1 := (hbel.cell hp).trans c1
      have d2 := (hbel.cell hp).trans c2
      have d3 := (hbel.cell hp).trans c3
      have d4 := (hbel.cell hp).trans c4
      have dL : p < wr.heap.size := Nat.lt_of_lt_of_le hp hbel.size
      rw [drop_at hq] at hpo
      have hpo' : poolsF none ps = ((okPl q && (match prvP ps k with | none => true | some r => folB r q.p)) && poolsF (some q.p) (ps.drop (k + 1))) := hpo
      have HNx := hidP (prvP_next hq)
      have HPo := hidP hpo'
      have HPr := hidP hpr
      have HBel := hidP hbel
      have HQ1 := hidP (sPoolOk_any q)
      clear c0 c1 c2 c3 c4 hq hpo hpo' hpr hbel
      cases hok : okPl q
      · rw [hok] at HQ1 HPo
        have HF : Hid ((poolsF none ps && blocksS ps none bs) = false) := hidP (by rw [HPo.out]; rfl)
        clear HPo HPr HNx
        go_wp2_with fail
        have HSx : Hid (∀ x, Below wr.heap.size wr x → (x.cell? ⟨w.heap.size, 0, none⟩ = some (.slice (some ⟨p, o, none⟩) np cp) ∧ x.cell? ⟨p, o + k * 5, none⟩ = some (.bool q.p.s) ∧ x.cell? ⟨p, o + k * 5 + 1, none⟩ = some (.int .i64 q.p.H.toInt) ∧ x.cell? ⟨p, o + k * 5 + 2, none⟩ = some (.int .i64 q.p.L.toInt) ∧ x.cell? ⟨p, o + k * 5 + 3, none⟩ = some (.int .i64 q.p.b) ∧ x.cell? ⟨p, o + k * 5 + 4, none⟩ = some (.int .i64 q.n) ∧ Below wr.heap.size wr x)) := hidP fun x h =>
          ⟨(h.cell vL).trans v0, (h.cell dL).trans d0, (h.cell dL).trans d1, (h.cell dL).trans d2, (h.cell dL).trans d3, (h.cell dL).trans d4, h⟩
        refine wp_region_held_drew (S := (fun x => x.cell? ⟨w.heap.size, 0, none⟩ = some (.slice (some ⟨p, o, none⟩) np cp) ∧ x.cell? ⟨p, o + k * 5, none⟩ = some (.bool q.p.s) ∧ x.cell? ⟨p, o + k * 5 + 1, none⟩ = some (.int .i64 q.p.H.toInt) ∧ x.cell? ⟨p, o + k * 5 + 2, none⟩ = some (.int .i64 q.p.L.toInt) ∧ x.cell? ⟨p, o + k * 5 + 3, none⟩ = some (.int .i64 q.p.b) ∧ x.cell? ⟨p, o + k * 5 + 4, none⟩ = some (.int .i64 q.n) ∧ Below wr.heap.size wr x)) (by kernel_rfl) ?_ (fun hHeld => ?_)
        · try dsimp only
          exact HSx.out _ (Below.refl _ _).drew
        refine tkA 0 24 (v := ?_) rfl (by kernel_rfl) (fun _ _ _ h => h) (by rfl) ?_ (by assumption) ?_; rotate_left; · (intro w hSw; (try dsimp only at hSw); go_simp; try with_reducible rfl)
        simp only [pa]
        refine tkA 1 25 (v := ?_) rfl (by kernel_rfl) (fun _ _ _ h => h) (by rfl) ?_ (by assumption) ?_; rotate_left; · (intro w hSw; (try dsimp only at hSw); go_simp; try with_reducible rfl)
        simp only [pa]
        refine tkA 2 26 (v := ?_) rfl (by kernel_rfl) (fun _ _ _ h => h) (by rfl) ?_ (by assumption) ?_; rotate_left; · (intro w hSw; (try dsimp only at hSw); go_simp; try with_reducible rfl)
        simp only [pa]
        refine tkA 3 27 (v := ?_) rfl (by kernel_rfl) (fun _ _ _ h => h) (by rfl) ?_ (by assumption) ?_; rotate_left; · (intro w hSw; (try dsimp only at hSw); go_simp; try with_reducible rfl)
        simp only [pa]
        refine tkA 4 28 (v := ?_) rfl (by kernel_rfl) (fun _ _ _ h => h) (by rfl) ?_ (by assumption) ?_; rotate_left; · (intro w hSw; (try dsimp only at hSw); go_simp; try with_reducible rfl)
        simp only [pa]
        refine wpAnyH_ready (rs := [5]) (by kernel_rfl) (by simp) ?_
        refine AllReadyH.cons rfl (fun K hK => ?_) AllReadyH.nil
        go_simp
        go_wp2_with (first | (go_at_call 35; refine (HQ1.out _).mono ?_; rintro e w2 ⟨rfl, hb2⟩; have b2 := (hHeld.2.2.2.2.2.2).trans (hb2.mono (hHeld.2.2.2.2.2.2).size)))
        refine hK.out _ _ ?_ (fun hHeld => ?_)
        · try dsimp only
          exact HSx.out _ b2
        clear hK K
        refine tkA 6 30 (v := ?_) rfl (by kernel_rfl) (fun _ _ _ h => h) (by rfl) ?_ (by assumption) ?_; rotate_left; · (intro w hSw; (try dsimp only at hSw); go_simp; try with_reducible rfl)
        simp only [pa]
        refine tkA 7 31 (v := ?_) rfl (by kernel_rfl) (fun _ _ _ h => h) (by rfl) ?_ (by assumption) ?_; rotate_left; · (intro w hSw; (try dsimp only at hSw); go_simp; try with_reducible rfl)
        simp only [pa]
        refine wpAnyH_take (i := 8) (oi := ⟨some 32, _, _, _, _, _⟩) (v := undef) rfl (by kernel_rfl) (by kernel_rfl) (by kernel_rfl) (fun _ _ _ h => h) (Or.inr ⟨by rfl, rfl⟩) (by assumption) ?_
        simp only [pa]
        refine wpAnyH_take (i := 9) (oi := ⟨some 33, _, _, _, _, _⟩) (v := undef) rfl (by kernel_rfl) (by kernel_rfl) (by kernel_rfl) (fun _ _ _ h => h) (Or.inr ⟨by rfl, rfl⟩) (by assumption) ?_
        simp only [pa]
        refine wpAnyH_take (i := 10) (oi := ⟨some 34, _, _, _, _, _⟩) (v := undef) rfl (by kernel_rfl) (by kernel_rfl) (by kernel_rfl) (fun _ _ _ h => h) (Or.inr ⟨by rfl, rfl⟩) (by assumption) ?_
        simp only [pa]
        refine wpAnyH_take (i := 11) (oi := ⟨some 35, _, _, _, _, _⟩) (v := undef) rfl (by kernel_rfl) (by kernel_rfl) (by kernel_rfl) (fun _ _ _ h => h) (Or.inr ⟨by rfl, rfl⟩) (by assumption) ?_
        simp only [pa]
        refine wpAnyH_take (i := 12) (oi := ⟨some 36, _, _, _, _, _⟩) (v := undef) rfl (by kernel_rfl) (by kernel_rfl) (by kernel_rfl) (fun _ _ _ h => h) (Or.inr ⟨by rfl, rfl⟩) (by assumption) ?_
        simp only [pa]
        refine wpAnyH_take (i := 13) (oi := ⟨some 37, _, _, _, _, _⟩) (v := undef) rfl (by kernel_rfl) (by kernel_rfl) (by kernel_rfl) (fun _ _ _ h => h) (Or.inr ⟨by rfl, rfl⟩) (by assumption) ?_
        simp only [pa]
        refine wpAnyH_take (i := 14) (oi := ⟨some 38, _, _, _, _, _⟩) (v := undef) rfl (by kernel_rfl) (by kernel_rfl) (by kernel_rfl) (fun _ _ _ h => h) (Or.inr ⟨by rfl, rfl⟩) (by assumption) ?_
        simp only [pa]
        refine wpAnyH_take (i := 15) (oi := ⟨some 39, _, _, _, _, _⟩) (v := undef) rfl (by kernel_rfl) (by kernel_rfl) (by kernel_rfl) (fun _ _ _ h => h) (Or.inr ⟨by rfl, rfl⟩) (by assumption) ?_
        simp only [pa]
        refine wpAnyH_take (i := 16) (oi := ⟨some 40, _, _, _, _, _⟩) (v := undef) rfl (by kernel_rfl) (by kernel_rfl) (by kernel_rfl) (fun _ _ _ h => h) (Or.inr ⟨by rfl, rfl⟩) (by assumption) ?_
        simp only [pa]
        refine wpAnyH_take (i := 17) (oi := ⟨some 41, _, _, _, _, _⟩) (v := undef) rfl (by kernel_rfl) (by kernel_rfl) (by kernel_rfl) (fun _ _ _ h => h) (Or.inr ⟨by rfl, rfl⟩) (by assumption) ?_
        simp only [pa]
        refine wpAnyH_take (i := 18) (oi := ⟨some 42, _, _, _, _, _⟩) (v := undef) rfl (by kernel_rfl) (by kernel_rfl) (by kernel_rfl) (fun _ _ _ h => h) (Or.inr ⟨by rfl, rfl⟩) (by assumption) ?_
        simp only [pa]
        refine wpAnyH_take (i := 19) (oi := ⟨some 43, _, _, _, _, _⟩) (v := undef) rfl (by kernel_rfl) (by kernel_rfl) (by kernel_rfl) (fun _ _ _ h => h) (Or.inr ⟨by rfl, rfl⟩) (by assumption) ?_
        simp only [pa]
        refine wpAnyH_take (i := 20) (oi := ⟨some 44, _, _, _, _, _⟩) (v := undef) rfl (by kernel_rfl) (by kernel_rfl) (by kernel_rfl) (fun _ _ _ h => h) (Or.inr ⟨by rfl, rfl⟩) (by assumption) ?_
        simp only [pa]
        refine wpAnyH_take (i := 21) (oi := ⟨some 45, _, _, _, _, _⟩) (v := undef) rfl (by kernel_rfl) (by kernel_rfl) (by kernel_rfl) (fun _ _ _ h => h) (Or.inr ⟨by rfl, rfl⟩) (by assumption) ?_
        simp only [pa]
        refine wpAnyH_take (i := 22) (oi := ⟨some 46, _, _, _, _, _⟩) (v := undef) rfl (by kernel_rfl) (by kernel_rfl) (by kernel_rfl) (fun _ _ _ h => h) (Or.inr ⟨by rfl, rfl⟩) (by assumption) ?_
        simp only [pa]
        refine wpAnyH_take (i := 23) (oi := ⟨some 47, _, _, _, _, _⟩) (v := undef) rfl (by kernel_rfl) (by kernel_rfl) (by kernel_rfl) (fun _ _ _ h => h) (Or.inr ⟨by rfl, rfl⟩) (by assumption) ?_
        simp only [pa]
        refine wpAnyH_take (i := 24) (oi := ⟨some 48, _, _, _, _, _⟩) (v := undef) rfl (by kernel_rfl) (by kernel_rfl) (by kernel_rfl) (fun _ _ _ h => h) (Or.inr ⟨by rfl, rfl⟩) (by assumption) ?_
        simp only [pa]
        refine wpAnyH_take (i := 25) (oi := ⟨some 49, _, _, _, _, _⟩) (v := undef) rfl (by kernel_rfl) (by kernel_rfl) (by kernel_rfl) (fun _ _ _ h => h) (Or.inr ⟨by rfl, rfl⟩) (by assumption) ?_
        simp only [pa]
        refine wpAnyH_take (i := 26) (oi := ⟨some 50, _, _, _, _, _⟩) (v := undef) rfl (by kernel_rfl) (by kernel_rfl) (by kernel_rfl) (fun _ _ _ h => h) (Or.inr ⟨by rfl, rfl⟩) (by assumption) ?_
        simp only [pa]
        refine wpAnyH_take (i := 27) (oi := ⟨some 51, _, _, _, _, _⟩) (v := undef) rfl (by kernel_rfl) (by kernel_rfl) (by kernel_rfl) (fun _ _ _ h => h) (Or.inr ⟨by rfl, rfl⟩) (by assumption) ?_
        simp only [pa]
        refine wpAnyH_take (i := 28) (oi := ⟨some 52, _, _, _, _, _⟩) (v := undef) rfl (by kernel_rfl) (by kernel_rfl) (by kernel_rfl) (fun _ _ _ h => h) (Or.inr ⟨by rfl, rfl⟩) (by assumption) ?_
        simp only [pa]
        refine wpAnyH_take (i := 29) (oi := ⟨some 53, _, _, _, _, _⟩) (v := undef) rfl (by kernel_rfl) (by kernel_rfl) (by kernel_rfl) (fun _ _ _ h => h) (Or.inr ⟨by rfl, rfl⟩) (by assumption) ?_
        simp only [pa]
        refine wpAnyH_take (i := 30) (oi := ⟨some 54, _, _, _, _, _⟩) (v := undef) rfl (by kernel_rfl) (by kernel_rfl) (by kernel_rfl) (fun _ _ _ h => h) (Or.inr ⟨by rfl, rfl⟩) (by assumption) ?_
        simp only [pa]
        refine wpAnyH_take (i := 31) (oi := ⟨some 55, _, _, _, _, _⟩) (v := undef) rfl (by kernel_rfl) (by kernel_rfl) (by kernel_rfl) (fun _ _ _ h => h) (Or.inr ⟨by rfl, rfl⟩) (by assumption) ?_
        simp only [pa]
        refine wpAnyH_take (i := 32) (oi := ⟨some 56, _, _, _, _, _⟩) (v := undef) rfl (by kernel_rfl) (by kernel_rfl) (by kernel_rfl) (fun _ _ _ h => h) (Or.inr ⟨by rfl, rfl⟩) (by assumption) ?_
        simp only [pa]
        refine wpAnyH_take (i := 33) (oi := ⟨some 57, _, _, _, _, _⟩) (v := undef) rfl (by kernel_rfl) (by kernel_rfl) (by kernel_rfl) (fun _ _ _ h => h) (Or.inr ⟨by rfl, rfl⟩) (by assumption) ?_
        simp only [pa]
        refine wpAnyH_take (i := 34) (oi := ⟨some 58, _, _, _, _, _⟩) (v := undef) rfl (by kernel_rfl) (by kernel_rfl) (by kernel_rfl) (fun _ _ _ h => h) (Or.inr ⟨by rfl, rfl⟩) (by assumption) ?_
        simp only [pa]
        refine wpAnyH_take (i := 35) (oi := ⟨some 59, _, _, _, _, _⟩) (v := undef) rfl (by kernel_rfl) (by kernel_rfl) (by kernel_rfl) (fun _ _ _ h => h) (Or.inr ⟨by rfl, rfl⟩) (by assumption) ?_
        simp only [pa]
        refine wpAnyH_take (i := 36) (oi := ⟨some 60, _, _, _, _, _⟩) (v := undef) rfl (by kernel_rfl) (by kernel_rfl) (by kernel_rfl) (fun _ _ _ h => h) (Or.inr ⟨by rfl, rfl⟩) (by assumption) ?_
        simp only [pa]
        refine wpAnyH_take (i := 37) (oi := ⟨some 61, _, _, _, _, _⟩) (v := undef) rfl (by kernel_rfl) (by kernel_rfl) (by kernel_rfl) (fun _ _ _ h => h) (Or.inr ⟨by rfl, rfl⟩) (by assumption) ?_
        simp only [pa]
        refine wpAnyH_take (i := 38) (oi := ⟨some 62, _, _, _, _, _⟩) (v := undef) rfl (by kernel_rfl) (by kernel_rfl) (by kernel_rfl) (fun _ _ _ h => h) (Or.inr ⟨by rfl, rfl⟩) (by assumption) ?_
        simp only [pa]
        refine wpAnyH_take (i := 39) (oi := ⟨some 63, _, _, _, _, _⟩) (v := undef) rfl (by kernel_rfl) (by kernel_rfl) (by kernel_rfl) (fun _ _ _ h => h) (Or.inr ⟨by rfl, rfl⟩) (by assumption) ?_
        simp only [pa]
        refine wpAnyH_take (i := 40) (oi := ⟨some 64, _, _, _, _, _⟩) (v := undef) rfl (by kernel_rfl) (by kernel_rfl) (by kernel_rfl) (fun _ _ _ h => h) (Or.inr ⟨by rfl, rfl⟩) (by assumption) ?_
        simp only [pa]
        refine wpAnyH_take (i := 41) (oi := ⟨some 65, _, _, _, _, _⟩) (v := undef) rfl (by kernel_rfl) (by kernel_rfl) (by kernel_rfl) (fun _ _ _ h => h) (Or.inr ⟨by rfl, rfl⟩) (by assumption) ?_
        simp only [pa]
        refine wpAnyH_take (i := 42) (oi := ⟨some 66, _, _, _, _, _⟩) (v := undef) rfl (by kernel_rfl) (by kernel_rfl) (by kernel_rfl) (fun _ _ _ h => h) (Or.inr ⟨by rfl, rfl⟩) (by assumption) ?_
        simp only [pa]
        refine tkA 43 67 (v := ?_) rfl (by kernel_rfl) (fun _ _ _ h => h) (by rfl) ?_ (by assumption) ?_; rotate_left; · (intro w hSw; (try dsimp only at hSw); go_simp; try with_reducible rfl)
        simp only [pa]
        have HE := hidP (hHeld.2.2.2.2.2.2)
        refine wpAnyH_done (by kernel_rfl) ?_ _
        clear hHeld
        go_wp2_with fail
        go_ret
        exact ⟨ret_b HF.out.symm, HUB.out.trans ((HBel.out.trans (HE.out.mono HBel.out.size)).mono HUB.out.size)⟩
      · rw [hok] at HQ1 HPo
        have HOk := hidP (okPl_pk hok)
        by_cases hk0 : k = 0
        · have g0 : decide ((0 : Int) < (k : Int)) = false := decide_eq_false (by omega)
          have g1 : decide (0 < k) = false := decide_eq_false (by omega)
          have HF : Hid (poolsF none ps = poolsF (some q.p) (ps.drop (k + 1))) := hidP (by rw [HPo.out, hk0]; rfl)
          clear HPo HPr hk0
          go_wp2_with fail
          have HSx : Hid (∀ x, Below wr.heap.size wr x → (x.cell? ⟨w.heap.size, 0, none⟩ = some (.slice (some ⟨p, o, none⟩) np cp) ∧ x.cell? ⟨p, o + k * 5, none⟩ = some (.bool q.p.s) ∧ x.cell? ⟨p, o + k * 5 + 1, none⟩ = some (.int .i64 q.p.H.toInt) ∧ x.cell? ⟨p, o + k * 5 + 2, none⟩ = some (.int .i64 q.p.L.toInt) ∧ x.cell? ⟨p, o + k * 5 + 3, none⟩ = some (.int .i64 q.p.b) ∧ x.cell? ⟨p, o + k * 5 + 4, none⟩ = some (.int .i64 q.n) ∧ Below wr.heap.size wr x)) := hidP fun x h =>
            ⟨(h.cell vL).trans v0, (h.cell dL).trans d0, (h.cell dL).trans d1, (h.cell dL).trans d2, (h.cell dL).trans d3, (h.cell dL).trans d4, h⟩
          refine wp_region_held_drew (S := (fun x => x.cell? ⟨w.heap.size, 0, none⟩ = some (.slice (some ⟨p, o, none⟩) np cp) ∧ x.cell? ⟨p, o + k * 5, none⟩ = some (.bool q.p.s) ∧ x.cell? ⟨p, o + k * 5 + 1, none⟩ = some (.int .i64 q.p.H.toInt) ∧ x.cell? ⟨p, o + k * 5 + 2, none⟩ = some (.int .i64 q.p.L.toInt) ∧ x.cell? ⟨p, o + k * 5 + 3, none⟩ = some (.int .i64 q.p.b) ∧ x.cell? ⟨p, o + k * 5 + 4, none⟩ = some (.int .i64 q.n) ∧ Below wr.heap.size wr x)) (by kernel_rfl) ?_ (fun hHeld => ?_)
          · try dsimp only
            exact HSx.out _ (Below.refl _ _).drew
          refine tkA 0 24 (v := ?_) rfl (by kernel_rfl) (fun _ _ _ h => h) (by rfl) ?_ (by assumption) ?_; rotate_left; · (intro w hSw; (try dsimp only at hSw); go_simp; try with_reducible rfl)
          simp only [pa]
          refine tkA 1 25 (v := ?_) rfl (by kernel_rfl) (fun _ _ _ h => h) (by rfl) ?_ (by assumption) ?_; rotate_left; · (intro w hSw; (try dsimp only at hSw); go_simp; try with_reducible rfl)
          simp only [pa]
          refine tkA 2 26 (v := ?_) rfl (by kernel_rfl) (fun _ _ _ h => h) (by rfl) ?_ (by assumption) ?_; rotate_left; · (intro w hSw; (try dsimp only at hSw); go_simp; try with_reducible rfl)
          simp only [pa]
          refine tkA 3 27 (v := ?_) rfl (by kernel_rfl) (fun _ _ _ h => h) (by rfl) ?_ (by assumption) ?_; rotate_left; · (intro w hSw; (try dsimp only at hSw); go_simp; try with_reducible rfl)
          simp only [pa]
          refine tkA 4 28 (v := ?_) rfl (by kernel_rfl) (fun _ _ _ h => h) (by rfl) ?_ (by assumption) ?_; rotate_left; · (intro w hSw; (try dsimp only at hSw); go_simp; try with_reducible rfl)
          simp only [pa]
          refine wpAnyH_ready (rs := [5]) (by kernel_rfl) (by simp) ?_
          refine AllReadyH.cons rfl (fun K hK => ?_) AllReadyH.nil
          go_simp
          go_wp2_with (first | (go_at_call 35; refine (HQ1.out _).mono ?_; rintro e w2 ⟨rfl, hb2⟩; have b2 := (hHeld.2.2.2.2.2.2).trans (hb2.mono (hHeld.2.2.2.2.2.2).size)))
          refine hK.out _ _ ?_ (fun hHeld => ?_)
          · try dsimp only
            exact HSx.out _ b2
          clear hK K
          refine tkA 6 30 (v := ?_) rfl (by kernel_rfl) (fun _ _ _ h => h) (by rfl) ?_ (by assumption) ?_; rotate_left; · (intro w hSw; (try dsimp only at hSw); go_simp; try with_reducible rfl)
          simp only [pa]
          refine tkA 7 31 (v := ?_) rfl (by kernel_rfl) (fun _ _ _ h => h) (by rfl) ?_ (by assumption) ?_; rotate_left; · (intro w hSw; (try dsimp only at hSw); go_simp; try with_reducible rfl)
          simp only [pa]
          refine tkA 8 32 (v := ?_) rfl (by kernel_rfl) (fun _ _ _ h => h) (by rfl) ?_ (by assumption) ?_; rotate_left; · (intro w hSw; (try dsimp only at hSw); go_simp; try with_reducible rfl)
          simp only [pa]
          refine tkA 9 33 (v := ?_) rfl (by kernel_rfl) (fun _ _ _ h => h) (by rfl) ?_ (by assumption) ?_; rotate_left; · (intro w hSw; (try dsimp only at hSw); go_simp; try with_reducible rfl)
          simp only [pa]
          refine tkA 10 34 (v := ?_) rfl (by kernel_rfl) (fun _ _ _ h => h) (by rfl) ?_ (by assumption) ?_; rotate_left; · (intro w hSw; (try dsimp only at hSw); go_simp; try with_reducible rfl)
          simp only [pa]
          refine wpAnyH_take (i := 11) (oi := ⟨some 35, _, _, _, _, _⟩) (v := undef) rfl (by kernel_rfl) (by kernel_rfl) (by kernel_rfl) (fun _ _ _ h => h) (Or.inr ⟨by rfl, rfl⟩) (by assumption) ?_
          simp only [pa]
          refine wpAnyH_take (i := 12) (oi := ⟨some 36, _, _, _, _, _⟩) (v := undef) rfl (by kernel_rfl) (by kernel_rfl) (by kernel_rfl) (fun _ _ _ h => h) (Or.inr ⟨by rfl, rfl⟩) (by assumption) ?_
          simp only [pa]
          refine wpAnyH_take (i := 13) (oi := ⟨some 37, _, _, _, _, _⟩) (v := undef) rfl (by kernel_rfl) (by kernel_rfl) (by kernel_rfl) (fun _ _ _ h => h) (Or.inr ⟨by rfl, rfl⟩) (by assumption) ?_
          simp only [pa]
          refine wpAnyH_take (i := 14) (oi := ⟨some 38, _, _, _, _, _⟩) (v := undef) rfl (by kernel_rfl) (by kernel_rfl) (by kernel_rfl) (fun _ _ _ h => h) (Or.inr ⟨by rfl, rfl⟩) (by assumption) ?_
          simp only [pa]
          refine wpAnyH_take (i := 15) (oi := ⟨some 39, _, _, _, _, _⟩) (v := undef) rfl (by kernel_rfl) (by kernel_rfl) (by kernel_rfl) (fun _ _ _ h => h) (Or.inr ⟨by rfl, rfl⟩) (by assumption) ?_
          simp only [pa]
          refine wpAnyH_take (i := 16) (oi := ⟨some 40, _, _, _, _, _⟩) (v := undef) rfl (by kernel_rfl) (by kernel_rfl) (by kernel_rfl) (fun _ _ _ h => h) (Or.inr ⟨by rfl, rfl⟩) (by assumption) ?_
          simp only [pa]
          refine wpAnyH_take (i := 17) (oi := ⟨some 41, _, _, _, _, _⟩) (v := undef) rfl (by kernel_rfl) (by kernel_rfl) (by kernel_rfl) (fun _ _ _ h => h) (Or.inr ⟨by rfl, rfl⟩) (by assumption) ?_
          simp only [pa]
          refine wpAnyH_take (i := 18) (oi := ⟨some 42, _, _, _, _, _⟩) (v := undef) rfl (by kernel_rfl) (by kernel_rfl) (by kernel_rfl) (fun _ _ _ h => h) (Or.inr ⟨by rfl, rfl⟩) (by assumption) ?_
          simp only [pa]
          refine wpAnyH_take (i := 19) (oi := ⟨some 43, _, _, _, _, _⟩) (v := undef) rfl (by kernel_rfl) (by kernel_rfl) (by kernel_rfl) (fun _ _ _ h => h) (Or.inr ⟨by rfl, rfl⟩) (by assumption) ?_
          simp only [pa]
          refine wpAnyH_take (i := 20) (oi := ⟨some 44, _, _, _, _, _⟩) (v := undef) rfl (by kernel_rfl) (by kernel_rfl) (by kernel_rfl) (fun _ _ _ h => h) (Or.inr ⟨by rfl, rfl⟩) (by assumption) ?_
          simp only [pa]
          refine wpAnyH_take (i := 21) (oi := ⟨some 45, _, _, _, _, _⟩) (v := undef) rfl (by kernel_rfl) (by kernel_rfl) (by kernel_rfl) (fun _ _ _ h => h) (Or.inr ⟨by rfl, rfl⟩) (by assumption) ?_
          simp only [pa]
          refine wpAnyH_take (i := 22) (oi := ⟨some 46, _, _, _, _, _⟩) (v := undef) rfl (by kernel_rfl) (by kernel_rfl) (by kernel_rfl) (fun _ _ _ h => h) (Or.inr ⟨by rfl, rfl⟩) (by assumption) ?_
          simp only [pa]
          refine wpAnyH_take (i := 23) (oi := ⟨some 47, _, _, _, _, _⟩) (v := undef) rfl (by kernel_rfl) (by kernel_rfl) (by kernel_rfl) (fun _ _ _ h => h) (Or.inr ⟨by rfl, rfl⟩) (by assumption) ?_
          simp only [pa]
          refine wpAnyH_take (i := 24) (oi := ⟨some 48, _, _, _, _, _⟩) (v := undef) rfl (by kernel_rfl) (by kernel_rfl) (by kernel_rfl) (fun _ _ _ h => h) (Or.inr ⟨by rfl, rfl⟩) (by assumption) ?_
          simp only [pa]
          refine wpAnyH_take (i := 25) (oi := ⟨some 49, _, _, _, _, _⟩) (v := undef) rfl (by kernel_rfl) (by kernel_rfl) (by kernel_rfl) (fun _ _ _ h => h) (Or.inr ⟨by rfl, rfl⟩) (by assumption) ?_
          simp only [pa]
          refine wpAnyH_take (i := 26) (oi := ⟨some 50, _, _, _, _, _⟩) (v := undef) rfl (by kernel_rfl) (by kernel_rfl) (by kernel_rfl) (fun _ _ _ h => h) (Or.inr ⟨by rfl, rfl⟩) (by assumption) ?_
          simp only [pa]
          refine wpAnyH_take (i := 27) (oi := ⟨some 51, _, _, _, _, _⟩) (v := undef) rfl (by kernel_rfl) (by kernel_rfl) (by kernel_rfl) (fun _ _ _ h => h) (Or.inr ⟨by rfl, rfl⟩) (by assumption) ?_
          simp only [pa]
          refine wpAnyH_take (i := 28) (oi := ⟨some 52, _, _, _, _, _⟩) (v := undef) rfl (by kernel_rfl) (by kernel_rfl) (by kernel_rfl) (fun _ _ _ h => h) (Or.inr ⟨by rfl, rfl⟩) (by assumption) ?_
          simp only [pa]
          refine wpAnyH_take (i := 29) (oi := ⟨some 53, _, _, _, _, _⟩) (v := undef) rfl (by kernel_rfl) (by kernel_rfl) (by kernel_rfl) (fun _ _ _ h => h) (Or.inr ⟨by rfl, rfl⟩) (by assumption) ?_
          simp only [pa]
          refine wpAnyH_take (i := 30) (oi := ⟨some 54, _, _, _, _, _⟩) (v := undef) rfl (by kernel_rfl) (by kernel_rfl) (by kernel_rfl) (fun _ _ _ h => h) (Or.inr ⟨by rfl, rfl⟩) (by assumption) ?_
          simp only [pa]
          refine wpAnyH_take (i := 31) (oi := ⟨some 55, _, _, _, _, _⟩) (v := undef) rfl (by kernel_rfl) (by kernel_rfl) (by kernel_rfl) (fun _ _ _ h => h) (Or.inr ⟨by rfl, rfl⟩) (by assumption) ?_
          simp only [pa]
          refine wpAnyH_take (i := 32) (oi := ⟨some 56, _, _, _, _, _⟩) (v := undef) rfl (by kernel_rfl) (by kernel_rfl) (by kernel_rfl) (fun _ _ _ h => h) (Or.inr ⟨by rfl, rfl⟩) (by assumption) ?_
          simp only [pa]
          refine wpAnyH_take (i := 33) (oi := ⟨some 57, _, _, _, _, _⟩) (v := undef) rfl (by kernel_rfl) (by kernel_rfl) (by kernel_rfl) (fun _ _ _ h => h) (Or.inr ⟨by rfl, rfl⟩) (by assumption) ?_
          simp only [pa]
          refine wpAnyH_take (i := 34) (oi := ⟨some 58, _, _, _, _, _⟩) (v := undef) rfl (by kernel_rfl) (by kernel_rfl) (by kernel_rfl) (fun _ _ _ h => h) (Or.inr ⟨by rfl, rfl⟩) (by assumption) ?_
          simp only [pa]
          refine wpAnyH_take (i := 35) (oi := ⟨some 59, _, _, _, _, _⟩) (v := undef) rfl (by kernel_rfl) (by kernel_rfl) (by kernel_rfl) (fun _ _ _ h => h) (Or.inr ⟨by rfl, rfl⟩) (by assumption) ?_
          simp only [pa]
          refine wpAnyH_take (i := 36) (oi := ⟨some 60, _, _, _, _, _⟩) (v := undef) rfl (by kernel_rfl) (by kernel_rfl) (by kernel_rfl) (fun _ _ _ h => h) (Or.inr ⟨by rfl, rfl⟩) (by assumption) ?_
          simp only [pa]
          refine wpAnyH_take (i := 37) (oi := ⟨some 61, _, _, _, _, _⟩) (v := undef) rfl (by kernel_rfl) (by kernel_rfl) (by kernel_rfl) (fun _ _ _ h => h) (Or.inr ⟨by rfl, rfl⟩) (by assumption) ?_
          simp only [pa]
          refine wpAnyH_take (i := 38) (oi := ⟨some 62, _, _, _, _, _⟩) (v := undef) rfl (by kernel_rfl) (by kernel_rfl) (by kernel_rfl) (fun _ _ _ h => h) (Or.inr ⟨by rfl, rfl⟩) (by assumption) ?_
          simp only [pa]
          refine wpAnyH_take (i := 39) (oi := ⟨some 63, _, _, _, _, _⟩) (v := undef) rfl (by kernel_rfl) (by kernel_rfl) (by kernel_rfl) (fun _ _ _ h => h) (Or.inr ⟨by rfl, rfl⟩) (by assumption) ?_
          simp only [pa]
          refine wpAnyH_take (i := 40) (oi := ⟨some 64, _, _, _, _, _⟩) (v := undef) rfl (by kernel_rfl) (by kernel_rfl) (by kernel_rfl) (fun _ _ _ h => h) (Or.inr ⟨by rfl, rfl⟩) (by assumption) ?_
          simp only [pa]
          refine wpAnyH_take (i := 41) (oi := ⟨some 65, _, _, _, _, _⟩) (v := undef) rfl (by kernel_rfl) (by kernel_rfl) (by kernel_rfl) (fun _ _ _ h => h) (Or.inr ⟨by rfl, rfl⟩) (by assumption) ?_
          simp only [pa]
          refine tkA 42 66 (v := ?_) rfl (by kernel_rfl) (fun _ _ _ h => h) (by rfl) ?_ (by assumption) ?_; rotate_left; · (intro w hSw; (try dsimp only at hSw); go_simp; try with_reducible rfl)
          simp only [pa]
          refine tkA 43 67 (v := ?_) rfl (by kernel_rfl) (fun _ _ _ h => h) (by rfl) ?_ (by assumption) ?_; rotate_left; · (intro w hSw; (try dsimp only at hSw); go_simp; try with_reducible rfl)
          simp only [pa]
          have HE := hidP (hHeld.2.2.2.2.2.2)
          refine wpAnyH_done (by kernel_rfl) ?_ _
          clear hHeld
          go_wp2_with fail
          go_roundw
          case rel => exact ⟨k + 1, by omega, by go_num, by rw [HF.out, HNx.out], (fun r h => by rw [HNx.out] at h; cases h; exact HOk.out), HBel.out.trans (HE.out.mono HBel.out.size)⟩
          case measure => simp [intOf]; omega
        · have g0 : decide ((0 : Int) < (k : Int)) = true := decide_eq_true (by omega)
          have g1 : decide (0 < k) = true := decide_eq_true (by omega)
          obtain ⟨J, hJ⟩ : ∃ J, J = k - 1 := ⟨_, rfl⟩
          have hkJ : k = J + 1 := by omega
          have hJi : (k : Int) - 1 = (J : Int) := by omega
          have hJn : J < np := by omega
          have wJ : IntKind.i64.wrap (J : Int) = (J : Int) := by rw [IntKind.wrap_i64]; omega
          have hJ0 : (0 : Int) ≤ (J : Int) := by omega
          have hJ1 : (J : Int) < (np : Int) := by omega
          obtain ⟨p', o', r, he, hp', hr, c0, c1, c2, c3, c4⟩ := rowPl HP1.out J (by rw [← HNP.out]; exact hJn)
          simp only [Option.some.injEq, Addr.mk.injEq, and_true] at he
          obtain ⟨rfl, rfl⟩ := he
          have hprv : prvP ps k = some r.p := by rw [hkJ]; exact prvP_next hr
          have hrpk : r.p.pk = true := HPr.out _ hprv
          have HPo2 : Hid (poolsF none ps = ((true && folB r.p q.p) && poolsF (some q.p) (ps.drop (k + 1)))) := hidP (by rw [HPo.out, hprv])
          have HC := hidP (sCmpP r.p q.p hrpk HOk.out)
          have HO := hidP (sOverlaps_any r.p.s r.p.H r.p.L r.p.b q.p.s q.p.H q.p.L q.p.b)
          change Hid (∀ w, Calls Tryz.prog 37 _ w fun e w' => e = .returned (.bool (ovP r.p q.p)) ∧ Below w.heap.size w w') at HO
          have e0 := (HBel.out.cell hp').trans c0
          have e1 := (HBel.out.cell hp').trans c1
          have e2 := (HBel.out.cell hp').trans c2
          have e3 := (HBel.out.cell hp').trans c3
          clear c0 c1 c2 c3 c4 hr hprv hrpk hJ hkJ hk0 HPo HPr
          rw [folB_split] at HPo2
          cases hcm : decide (cmpP r.p q.p < 0)
          · have g2 := ge_not hcm
            rw [hcm] at HPo2
            have HF : Hid ((poolsF none ps && blocksS ps none bs) = false) := hidP (by rw [HPo2.out]; rfl)
            clear HPo2 hcm HO
            generalize cmpP r.p q.p = cm at *
            go_wp2_with fail
            have HSx : Hid (∀ x, Below wr.heap.size wr x → (x.cell? ⟨w.heap.size, 0, none⟩ = some (.slice (some ⟨p, o, none⟩) np cp) ∧ x.cell? ⟨p, o + k * 5, none⟩ = some (.bool q.p.s) ∧ x.cell? ⟨p, o + k * 5 + 1, none⟩ = some (.int .i64 q.p.H.toInt) ∧ x.cell? ⟨p, o + k * 5 + 2, none⟩ = some (.int .i64 q.p.L.toInt) ∧ x.cell? ⟨p, o + k * 5 + 3, none⟩ = some (.int .i64 q.p.b) ∧ x.cell? ⟨p, o + k * 5 + 4, none⟩ = some (.int .i64 q.n) ∧ x.cell? ⟨p, o + J * 5, none⟩ = some (.bool r.p.s) ∧ x.cell? ⟨p, o + J * 5 + 1, none⟩ = some (.int .i64 r.p.H.toInt) ∧ x.cell? ⟨p, o + J * 5 + 2, none⟩ = some (.int .i64 r.p.L.toInt) ∧ x.cell? ⟨p, o + J * 5 + 3, none⟩ = some (.int .i64 r.p.b) ∧ Below wr.heap.size wr x)) := hidP fun x h =>
              ⟨(h.cell vL).trans v0, (h.cell dL).trans d0, (h.cell dL).trans d1, (h.cell dL).trans d2, (h.cell dL).trans d3, (h.cell dL).trans d4, (h.cell dL).trans e0, (h.cell dL).trans e1, (h.cell dL).trans e2, (h.cell dL).trans e3, h⟩
            refine wp_region_held_drew (S := (fun x => x.cell? ⟨w.heap.size, 0, none⟩ = some (.slice (some ⟨p, o, none⟩) np cp) ∧ x.cell? ⟨p, o + k * 5, none⟩ = some (.bool q.p.s) ∧ x.cell? ⟨p, o + k * 5 + 1, none⟩ = some (.int .i64 q.p.H.toInt) ∧ x.cell? ⟨p, o + k * 5 + 2, none⟩ = some (.int .i64 q.p.L.toInt) ∧ x.cell? ⟨p, o + k * 5 + 3, none⟩ = some (.int .i64 q.p.b) ∧ x.cell? ⟨p, o + k * 5 + 4, none⟩ = some (.int .i64 q.n) ∧ x.cell? ⟨p, o + J * 5, none⟩ = some (.bool r.p.s) ∧ x.cell? ⟨p, o + J * 5 + 1, none⟩ = some (.int .i64 r.p.H.toInt) ∧ x.cell? ⟨p, o + J * 5 + 2, none⟩ = some (.int .i64 r.p.L.toInt) ∧ x.cell? ⟨p, o + J * 5 + 3, none⟩ = some (.int .i64 r.p.b) ∧ Below wr.heap.size wr x)) (by kernel_rfl) ?_ (fun hHeld => ?_)
            · try dsimp only
              exact HSx.out _ (Below.refl _ _).drew
            refine tkA 0 24 (v := ?_) rfl (by kernel_rfl) (fun _ _ _ h => h) (by rfl) ?_ (by assumption) ?_; rotate_left; · (intro w hSw; (try dsimp only at hSw); go_simp; try with_reducible rfl)
            simp only [pa]
            refine tkA 1 25 (v := ?_) rfl (by kernel_rfl) (fun _ _ _ h => h) (by rfl) ?_ (by assumption) ?_; rotate_left; · (intro w hSw; (try dsimp only at hSw); go_simp; try with_reducible rfl)
            simp only [pa]
            refine tkA 2 26 (v := ?_) rfl (by kernel_rfl) (fun _ _ _ h => h) (by rfl) ?_ (by assumption) ?_; rotate_left; · (intro w hSw; (try dsimp only at hSw); go_simp; try with_reducible rfl)
            simp only [pa]
            refine tkA 3 27 (v := ?_) rfl (by kernel_rfl) (fun _ _ _ h => h) (by rfl) ?_ (by assumption) ?_; rotate_left; · (intro w hSw; (try dsimp only at hSw); go_simp; try with_reducible rfl)
            simp only [pa]
            refine tkA 4 28 (v := ?_) rfl (by kernel_rfl) (fun _ _ _ h => h) (by rfl) ?_ (by assumption) ?_; rotate_left; · (intro w hSw; (try dsimp only at hSw); go_simp; try with_reducible rfl)
            simp only [pa]
            refine wpAnyH_ready (rs := [5]) (by kernel_rfl) (by simp) ?_
            refine AllReadyH.cons rfl (fun K hK => ?_) AllReadyH.nil
            go_simp
            go_wp2_with (first | (go_at_call 35; refine (HQ1.out _).mono ?_; rintro e w2 ⟨rfl, hb2⟩; have b2 := (hHeld.2.2.2.2.2.2.2.2.2.2).trans (hb2.mono (hHeld.2.2.2.2.2.2.2.2.2.2).size)))
            refine hK.out _ _ ?_ (fun hHeld => ?_)
            · try dsimp only
              exact HSx.out _ b2
            clear hK K
            refine tkA 6 30 (v := ?_) rfl (by kernel_rfl) (fun _ _ _ h => h) (by rfl) ?_ (by assumption) ?_; rotate_left; · (intro w hSw; (try dsimp only at hSw); go_simp; try with_reducible rfl)
            simp only [pa]
            refine tkA 7 31 (v := ?_) rfl (by kernel_rfl) (fun _ _ _ h => h) (by rfl) ?_ (by assumption) ?_; rotate_left; · (intro w hSw; (try dsimp only at hSw); go_simp; try with_reducible rfl)
            simp only [pa]
            refine tkA 8 32 (v := ?_) rfl (by kernel_rfl) (fun _ _ _ h => h) (by rfl) ?_ (by assumption) ?_; rotate_left; · (intro w hSw; (try dsimp only at hSw); go_simp; try with_reducible rfl)
            simp only [pa]
            refine tkA 9 33 (v := ?_) rfl (by kernel_rfl) (fun _ _ _ h => h) (by rfl) ?_ (by assumption) ?_; rotate_left; · (intro w hSw; (try dsimp only at hSw); go_simp; try with_reducible rfl)
            simp only [pa]
            refine tkA 10 34 (v := ?_) rfl (by kernel_rfl) (fun _ _ _ h => h) (by rfl) ?_ (by assumption) ?_; rotate_left; · (intro w hSw; (try dsimp only at hSw); go_simp; try with_reducible rfl)
            simp only [pa]
            refine tkA 11 35 (v := ?_) rfl (by kernel_rfl) (fun _ _ _ h => h) (by rfl) ?_ (by assumption) ?_; rotate_left; · (intro w hSw; (try dsimp only at hSw); go_simp; try with_reducible rfl)
            simp only [pa]
            refine tkA 12 36 (v := ?_) rfl (by kernel_rfl) (fun _ _ _ h => h) (by rfl) ?_ (by assumption) ?_; rotate_left; · (intro w hSw; (try dsimp only at hSw); go_simp; try with_reducible rfl)
            simp only [pa]
            refine tkA 13 37 (v := ?_) rfl (by kernel_rfl) (fun _ _ _ h => h) (by rfl) ?_ (by assumption) ?_; rotate_left; · (intro w hSw; (try dsimp only at hSw); go_simp; try with_reducible rfl)
            simp only [pa]
            refine tkA 14 38 (v := ?_) rfl (by kernel_rfl) (fun _ _ _ h => h) (by rfl) ?_ (by assumption) ?_; rotate_left; · (intro w hSw; (try dsimp only at hSw); go_simp; try with_reducible rfl)
            simp only [pa]
            refine tkA 15 39 (v := ?_) rfl (by kernel_rfl) (fun _ _ _ h => h) (by rfl) ?_ (by assumption) ?_; rotate_left; · (intro w hSw; (try dsimp only at hSw); go_simp; try with_reducible rfl)
            simp only [pa]
            refine tkA 16 40 (v := ?_) rfl (by kernel_rfl) (fun _ _ _ h => h) (by rfl) ?_ (by assumption) ?_; rotate_left; · (intro w hSw; (try dsimp only at hSw); go_simp; try with_reducible rfl)
            simp only [pa]
            refine tkA 17 41 (v := ?_) rfl (by kernel_rfl) (fun _ _ _ h => h) (by rfl) ?_ (by assumption) ?_; rotate_left; · (intro w hSw; (try dsimp only at hSw); go_simp; try with_reducible rfl)
            simp only [pa]
            refine tkA 18 42 (v := ?_) rfl (by kernel_rfl) (fun _ _ _ h => h) (by rfl) ?_ (by assumption) ?_; rotate_left; · (intro w hSw; (try dsimp only at hSw); go_simp; try with_reducible rfl)
            simp only [pa]
            refine tkA 19 43 (v := ?_) rfl (by kernel_rfl) (fun _ _ _ h => h) (by rfl) ?_ (by assumption) ?_; rotate_left; · (intro w hSw; (try dsimp only at hSw); go_simp; try with_reducible rfl)
            simp only [pa]
            refine tkA 20 44 (v := ?_) rfl (by kernel_rfl) (fun _ _ _ h => h) (by rfl) ?_ (by assumption) ?_; rotate_left; · (intro w hSw; (try dsimp only at hSw); go_simp; try with_reducible rfl)
            simp only [pa]
            refine tkA 21 45 (v := ?_) rfl (by kernel_rfl) (fun _ _ _ h => h) (by rfl) ?_ (by assumption) ?_; rotate_left; · (intro w hSw; (try dsimp only at hSw); go_simp; try with_reducible rfl)
            simp only [pa]
            refine tkA 22 46 (v := ?_) rfl (by kernel_rfl) (fun _ _ _ h => h) (by rfl) ?_ (by assumption) ?_; rotate_left; · (intro w hSw; (try dsimp only at hSw); go_simp; try with_reducible rfl)
            simp only [pa]
            refine tkA 23 47 (v := ?_) rfl (by kernel_rfl) (fun _ _ _ h => h) (by rfl) ?_ (by assumption) ?_; rotate_left; · (intro w hSw; (try dsimp only at hSw); go_simp; try with_reducible rfl)
            simp only [pa]
            refine wpAnyH_ready (rs := [24]) (by kernel_rfl) (by simp) ?_
            refine AllReadyH.cons rfl (fun K hK => ?_) AllReadyH.nil
            go_simp
            go_wp2_with (first | (go_at_call 36; refine (HC.out _).mono ?_; rintro e w3 ⟨rfl, hb3⟩; have b3 := (hHeld.2.2.2.2.2.2.2.2.2.2).trans (hb3.mono (hHeld.2.2.2.2.2.2.2.2.2.2).size)))
            refine hK.out _ _ ?_ (fun hHeld => ?_)
            · try dsimp only
              exact HSx.out _ b3
            clear hK K
            refine tkA 25 49 (v := ?_) rfl (by kernel_rfl) (fun _ _ _ h => h) (by rfl) ?_ (by assumption) ?_; rotate_left; · (intro w hSw; (try dsimp only at hSw); go_simp; try with_reducible rfl)
            simp only [pa]
            refine tkA 26 50 (v := ?_) rfl (by kernel_rfl) (fun _ _ _ h => h) (by rfl) ?_ (by assumption) ?_; rotate_left; · (intro w hSw; (try dsimp only at hSw); go_simp; try with_reducible rfl)
            simp only [pa]
            refine wpAnyH_take (i := 27) (oi := ⟨some 51, _, _, _, _, _⟩) (v := undef) rfl (by kernel_rfl) (by kernel_rfl) (by kernel_rfl) (fun _ _ _ h => h) (Or.inr ⟨by rfl, rfl⟩) (by assumption) ?_
            simp only [pa]
            refine wpAnyH_take (i := 28) (oi := ⟨some 52, _, _, _, _, _⟩) (v := undef) rfl (by kernel_rfl) (by kernel_rfl) (by kernel_rfl) (fun _ _ _ h => h) (Or.inr ⟨by rfl, rfl⟩) (by assumption) ?_
            simp only [pa]
            refine wpAnyH_take (i := 29) (oi := ⟨some 53, _, _, _, _, _⟩) (v := undef) rfl (by kernel_rfl) (by kernel_rfl) (by kernel_rfl) (fun _ _ _ h => h) (Or.inr ⟨by rfl, rfl⟩) (by assumption) ?_
            simp only [pa]
            refine wpAnyH_take (i := 30) (oi := ⟨some 54, _, _, _, _, _⟩) (v := undef) rfl (by kernel_rfl) (by kernel_rfl) (by kernel_rfl) (fun _ _ _ h => h) (Or.inr ⟨by rfl, rfl⟩) (by assumption) ?_
            simp only [pa]
            refine wpAnyH_take (i := 31) (oi := ⟨some 55, _, _, _, _, _⟩) (v := undef) rfl (by kernel_rfl) (by kernel_rfl) (by kernel_rfl) (fun _ _ _ h => h) (Or.inr ⟨by rfl, rfl⟩) (by assumption) ?_
            simp only [pa]
            refine wpAnyH_take (i := 32) (oi := ⟨some 56, _, _, _, _, _⟩) (v := undef) rfl (by kernel_rfl) (by kernel_rfl) (by kernel_rfl) (fun _ _ _ h => h) (Or.inr ⟨by rfl, rfl⟩) (by assumption) ?_
            simp only [pa]
            refine wpAnyH_take (i := 33) (oi := ⟨some 57, _, _, _, _, _⟩) (v := undef) rfl (by kernel_rfl) (by kernel_rfl) (by kernel_rfl) (fun _ _ _ h => h) (Or.inr ⟨by rfl, rfl⟩) (by assumption) ?_
            simp only [pa]
            refine wpAnyH_take (i := 34) (oi := ⟨some 58, _, _, _, _, _⟩) (v := undef) rfl (by kernel_rfl) (by kernel_rfl) (by kernel_rfl) (fun _ _ _ h => h) (Or.inr ⟨by rfl, rfl⟩) (by assumption) ?_
            simp only [pa]
            refine wpAnyH_take (i := 35) (oi := ⟨some 59, _, _, _, _, _⟩) (v := undef) rfl (by kernel_rfl) (by kernel_rfl) (by kernel_rfl) (fun _ _ _ h => h) (Or.inr ⟨by rfl, rfl⟩) (by assumption) ?_
            simp only [pa]
            refine wpAnyH_take (i := 36) (oi := ⟨some 60, _, _, _, _, _⟩) (v := undef) rfl (by kernel_rfl) (by kernel_rfl) (by kernel_rfl) (fun _ _ _ h => h) (Or.inr ⟨by rfl, rfl⟩) (by assumption) ?_
            simp only [pa]
            refine wpAnyH_take (i := 37) (oi := ⟨some 61, _, _, _, _, _⟩) (v := undef) rfl (by kernel_rfl) (by kernel_rfl) (by kernel_rfl) (fun _ _ _ h => h) (Or.inr ⟨by rfl, rfl⟩) (by assumption) ?_
            simp only [pa]
            refine wpAnyH_take (i := 38) (oi := ⟨some 62, _, _, _, _, _⟩) (v := undef) rfl (by kernel_rfl) (by kernel_rfl) (by kernel_rfl) (fun _ _ _ h => h) (Or.inr ⟨by rfl, rfl⟩) (by assumption) ?_
            simp only [pa]
            refine wpAnyH_take (i := 39) (oi := ⟨some 63, _, _, _, _, _⟩) (v := undef) rfl (by kernel_rfl) (by kernel_rfl) (by kernel_rfl) (fun _ _ _ h => h) (Or.inr ⟨by rfl, rfl⟩) (by assumption) ?_
            simp only [pa]
            refine wpAnyH_take (i := 40) (oi := ⟨some 64, _, _, _, _, _⟩) (v := undef) rfl (by kernel_rfl) (by kernel_rfl) (by kernel_rfl) (fun _ _ _ h => h) (Or.inr ⟨by rfl, rfl⟩) (by assumption) ?_
            simp only [pa]
            refine tkA 41 65 (v := ?_) rfl (by kernel_rfl) (fun _ _ _ h => h) (by rfl) ?_ (by assumption) ?_; rotate_left; · (intro w hSw; (try dsimp only at hSw); go_simp; try with_reducible rfl)
            simp only [pa]
            refine tkA 42 66 (v := ?_) rfl (by kernel_rfl) (fun _ _ _ h => h) (by rfl) ?_ (by assumption) ?_; rotate_left; · (intro w hSw; (try dsimp only at hSw); go_simp; try with_reducible rfl)
            simp only [pa]
            refine tkA 43 67 (v := ?_) rfl (by kernel_rfl) (fun _ _ _ h => h) (by rfl) ?_ (by assumption) ?_; rotate_left; · (intro w hSw; (try dsimp only at hSw); go_simp; try with_reducible rfl)
            simp only [pa]
            have HE := hidP (hHeld.2.2.2.2.2.2.2.2.2.2)
            refine wpAnyH_done (by kernel_rfl) ?_ _
            clear hHeld
            go_wp2_with fail
            go_ret
            exact ⟨ret_b HF.out.symm, HUB.out.trans ((HBel.out.trans (HE.out.mono HBel.out.size)).mono HUB.out.size)⟩
          · have g2 := ge_not hcm
            rw [hcm] at HPo2
            clear hcm
            generalize cmpP r.p q.p = cm at *
            cases hov : ovP r.p q.p
            · rw [hov] at HPo2 HO
              have HF : Hid (poolsF none ps = poolsF (some q.p) (ps.drop (k + 1))) := hidP (by rw [HPo2.out]; rfl)
              clear HPo2
              go_wp2_with fail
              have HSx : Hid (∀ x, Below wr.heap.size wr x → (x.cell? ⟨w.heap.size, 0, none⟩ = some (.slice (some ⟨p, o, none⟩) np cp) ∧ x.cell? ⟨p, o + k * 5, none⟩ = some (.bool q.p.s) ∧ x.cell? ⟨p, o + k * 5 + 1, none⟩ = some (.int .i64 q.p.H.toInt) ∧ x.cell? ⟨p, o + k * 5 + 2, none⟩ = some (.int .i64 q.p.L.toInt) ∧ x.cell? ⟨p, o + k * 5 + 3, none⟩ = some (.int .i64 q.p.b) ∧ x.cell? ⟨p, o + k * 5 + 4, none⟩ = some (.int .i64 q.n) ∧ x.cell? ⟨p, o + J * 5, none⟩ = some (.bool r.p.s) ∧ x.cell? ⟨p, o + J * 5 + 1, none⟩ = some (.int .i64 r.p.H.toInt) ∧ x.cell? ⟨p, o + J * 5 + 2, none⟩ = some (.int .i64 r.p.L.toInt) ∧ x.cell? ⟨p, o + J * 5 + 3, none⟩ = some (.int .i64 r.p.b) ∧ Below wr.heap.size wr x)) := hidP fun x h =>
                ⟨(h.cell vL).trans v0, (h.cell dL).trans d0, (h.cell dL).trans d1, (h.cell dL).trans d2, (h.cell dL).trans d3, (h.cell dL).trans d4, (h.cell dL).trans e0, (h.cell dL).trans e1, (h.cell dL).trans e2, (h.cell dL).trans e3, h⟩
              refine wp_region_held_drew (S := (fun x => x.cell? ⟨w.heap.size, 0, none⟩ = some (.slice (some ⟨p, o, none⟩) np cp) ∧ x.cell? ⟨p, o + k * 5, none⟩ = some (.bool q.p.s) ∧ x.cell? ⟨p, o + k * 5 + 1, none⟩ = some (.int .i64 q.p.H.toInt) ∧ x.cell? ⟨p, o + k * 5 + 2, none⟩ = some (.int .i64 q.p.L.toInt) ∧ x.cell? ⟨p, o + k * 5 + 3, none⟩ = some (.int .i64 q.p.b) ∧ x.cell? ⟨p, o + k * 5 + 4, none⟩ = some (.int .i64 q.n) ∧ x.cell? ⟨p, o + J * 5, none⟩ = some (.bool r.p.s) ∧ x.cell? ⟨p, o + J * 5 + 1, none⟩ = some (.int .i64 r.p.H.toInt) ∧ x.cell? ⟨p, o + J * 5 + 2, none⟩ = some (.int .i64 r.p.L.toInt) ∧ x.cell? ⟨p, o + J * 5 + 3, none⟩ = some (.int .i64 r.p.b) ∧ Below wr.heap.size wr x)) (by kernel_rfl) ?_ (fun hHeld => ?_)
              · try dsimp only
                exact HSx.out _ (Below.refl _ _).drew
              refine tkA 0 24 (v := ?_) rfl (by kernel_rfl) (fun _ _ _ h => h) (by rfl) ?_ (by assumption) ?_; rotate_left; · (intro w hSw; (try dsimp only at hSw); go_simp; try with_reducible rfl)
              simp only [pa]
              refine tkA 1 25 (v := ?_) rfl (by kernel_rfl) (fun _ _ _ h => h) (by rfl) ?_ (by assumption) ?_; rotate_left; · (intro w hSw; (try dsimp only at hSw); go_simp; try with_reducible rfl)
              simp only [pa]
              refine tkA 2 26 (v := ?_) rfl (by kernel_rfl) (fun _ _ _ h => h) (by rfl) ?_ (by assumption) ?_; rotate_left; · (intro w hSw; (try dsimp only at hSw); go_simp; try with_reducible rfl)
              simp only [pa]
              refine tkA 3 27 (v := ?_) rfl (by kernel_rfl) (fun _ _ _ h => h) (by rfl) ?_ (by assumption) ?_; rotate_left; · (intro w hSw; (try dsimp only at hSw); go_simp; try with_reducible rfl)
              simp only [pa]
              refine tkA 4 28 (v := ?_) rfl (by kernel_rfl) (fun _ _ _ h => h) (by rfl) ?_ (by assumption) ?_; rotate_left; · (intro w hSw; (try dsimp only at hSw); go_simp; try with_reducible rfl)
              simp only [pa]
              refine wpAnyH_ready (rs := [5]) (by kernel_rfl) (by simp) ?_
              refine AllReadyH.cons rfl (fun K hK => ?_) AllReadyH.nil
              go_simp
              go_wp2_with (first | (go_at_call 35; refine (HQ1.out _).mono ?_; rintro e w2 ⟨rfl, hb2⟩; have b2 := (hHeld.2.2.2.2.2.2.2.2.2.2).trans (hb2.mono (hHeld.2.2.2.2.2.2.2.2.2.2).size)))
              refine hK.out _ _ ?_ (fun hHeld => ?_)
              · try dsimp only
                exact HSx.out _ b2
              clear hK K
              refine tkA 6 30 (v := ?_) rfl (by kernel_rfl) (fun _ _ _ h => h) (by rfl) ?_ (by assumption) ?_; rotate_left; · (intro w hSw; (try dsimp only at hSw); go_simp; try with_reducible rfl)
              simp only [pa]
              refine tkA 7 31 (v := ?_) rfl (by kernel_rfl) (fun _ _ _ h => h) (by rfl) ?_ (by assumption) ?_; rotate_left; · (intro w hSw; (try dsimp only at hSw); go_simp; try with_reducible rfl)
              simp only [pa]
              refine tkA 8 32 (v := ?_) rfl (by kernel_rfl) (fun _ _ _ h => h) (by rfl) ?_ (by assumption) ?_; rotate_left; · (intro w hSw; (try dsimp only at hSw); go_simp; try with_reducible rfl)
              simp only [pa]
              refine tkA 9 33 (v := ?_) rfl (by kernel_rfl) (fun _ _ _ h => h) (by rfl) ?_ (by assumption) ?_; rotate_left; · (intro w hSw; (try dsimp only at hSw); go_simp; try with_reducible rfl)
              simp only [pa]
              refine tkA 10 34 (v := ?_) rfl (by kernel_rfl) (fun _ _ _ h => h) (by rfl) ?_ (by assumption) ?_; rotate_left; · (intro w hSw; (try dsimp only at hSw); go_simp; try with_reducible rfl)
              simp only [pa]
              refine tkA 11 35 (v := ?_) rfl (by kernel_rfl) (fun _ _ _ h => h) (by rfl) ?_ (by assumption) ?_; rotate_left; · (intro w hSw; (try dsimp only at hSw); go_simp; try with_reducible rfl)
              simp only [pa]
              refine tkA 12 36 (v := ?_) rfl (by kernel_rfl) (fun _ _ _ h => h) (by rfl) ?_ (by assumption) ?_; rotate_left; · (intro w hSw; (try dsimp only at hSw); go_simp; try with_reducible rfl)
              simp only [pa]
              refine tkA 13 37 (v := ?_) rfl (by kernel_rfl) (fun _ _ _ h => h) (by rfl) ?_ (by assumption) ?_; rotate_left; · (intro w hSw; (try dsimp only at hSw); go_simp; try with_reducible rfl)
              simp only [pa]
              refine tkA 14 38 (v := ?_) rfl (by kernel_rfl) (fun _ _ _ h => h) (by rfl) ?_ (by assumption) ?_; rotate_left; · (intro w hSw; (try dsimp only at hSw); go_simp; try with_reducible rfl)
              simp only [pa]
              refine tkA 15 39 (v := ?_) rfl (by kernel_rfl) (fun _ _ _ h => h) (by rfl) ?_ (by assumption) ?_; rotate_left; · (intro w hSw; (try dsimp only at hSw); go_simp; try with_reducible rfl)
              simp only [pa]
              refine tkA 16 40 (v := ?_) rfl (by kernel_rfl) (fun _ _ _ h => h) (by rfl) ?_ (by assumption) ?_; rotate_left; · (intro w hSw; (try dsimp only at hSw); go_simp; try with_reducible rfl)
              simp only [pa]
              refine tkA 17 41 (v := ?_) rfl (by kernel_rfl) (fun _ _ _ h => h) (by rfl) ?_ (by assumption) ?_; rotate_left; · (intro w hSw; (try dsimp only at hSw); go_simp; try with_reducible rfl)
              simp only [pa]
              refine tkA 18 42 (v := ?_) rfl (by kernel_rfl) (fun _ _ _ h => h) (by rfl) ?_ (by assumption) ?_; rotate_left; · (intro w hSw; (try dsimp only at hSw); go_simp; try with_reducible rfl)
              simp only [pa]
              refine tkA 19 43 (v := ?_) rfl (by kernel_rfl) (fun _ _ _ h => h) (by rfl) ?_ (by assumption) ?_; rotate_left; · (intro w hSw; (try dsimp only at hSw); go_simp; try with_reducible rfl)
              simp only [pa]
              refine tkA 20 44 (v := ?_) rfl (by kernel_rfl) (fun _ _ _ h => h) (by rfl) ?_ (by assumption) ?_; rotate_left; · (intro w hSw; (try dsimp only at hSw); go_simp; try with_reducible rfl)
              simp only [pa]
              refine tkA 21 45 (v := ?_) rfl (by kernel_rfl) (fun _ _ _ h => h) (by rfl) ?_ (by assumption) ?_; rotate_left; · (intro w hSw; (try dsimp only at hSw); go_simp; try with_reducible rfl)
              simp only [pa]
              refine tkA 22 46 (v := ?_) rfl (by kernel_rfl) (fun _ _ _ h => h) (by rfl) ?_ (by assumption) ?_; rotate_left; · (intro w hSw; (try dsimp only at hSw); go_simp; try with_reducible rfl)
              simp only [pa]
              refine tkA 23 47 (v := ?_) rfl (by kernel_rfl) (fun _ _ _ h => h) (by rfl) ?_ (by assumption) ?_; rotate_left; · (intro w hSw; (try dsimp only at hSw); go_simp; try with_reducible rfl)
              simp only [pa]
              refine wpAnyH_ready (rs := [24]) (by kernel_rfl) (by simp) ?_
              refine AllReadyH.cons rfl (fun K hK => ?_) AllReadyH.nil
              go_simp
              go_wp2_with (first | (go_at_call 36; refine (HC.out _).mono ?_; rintro e w3 ⟨rfl, hb3⟩; have b3 := (hHeld.2.2.2.2.2.2.2.2.2.2).trans (hb3.mono (hHeld.2.2.2.2.2.2.2.2.2.2).size)))
              refine hK.out _ _ ?_ (fun hHeld => ?_)
              · try dsimp only
                exact HSx.out _ b3
              clear hK K
              refine tkA 25 49 (v := ?_) rfl (by kernel_rfl) (fun _ _ _ h => h) (by rfl) ?_ (by assumption) ?_; rotate_left; · (intro w hSw; (try dsimp only at hSw); go_simp; try with_reducible rfl)
              simp only [pa]
              refine tkA 26 50 (v := ?_) rfl (by kernel_rfl) (fun _ _ _ h => h) (by rfl) ?_ (by assumption) ?_; rotate_left; · (intro w hSw; (try dsimp only at hSw); go_simp; try with_reducible rfl)
              simp only [pa]
              refine tkA 27 51 (v := ?_) rfl (by kernel_rfl) (fun _ _ _ h => h) (by rfl) ?_ (by assumption) ?_; rotate_left; · (intro w hSw; (try dsimp only at hSw); go_simp; try with_reducible rfl)
              simp only [pa]
              refine tkA 28 52 (v := ?_) rfl (by kernel_rfl) (fun _ _ _ h => h) (by rfl) ?_ (by assumption) ?_; rotate_left; · (intro w hSw; (try dsimp only at hSw); go_simp; try with_reducible rfl)
              simp only [pa]
              refine tkA 29 53 (v := ?_) rfl (by kernel_rfl) (fun _ _ _ h => h) (by rfl) ?_ (by assumption) ?_; rotate_left; · (intro w hSw; (try dsimp only at hSw); go_simp; try with_reducible rfl)
              simp only [pa]
              refine tkA 30 54 (v := ?_) rfl (by kernel_rfl) (fun _ _ _ h => h) (by rfl) ?_ (by assumption) ?_; rotate_left; · (intro w hSw; (try dsimp only at hSw); go_simp; try with_reducible rfl)
              simp only [pa]
              refine tkA 31 55 (v := ?_) rfl (by kernel_rfl) (fun _ _ _ h => h) (by rfl) ?_ (by assumption) ?_; rotate_left; · (intro w hSw; (try dsimp only at hSw); go_simp; try with_reducible rfl)
              simp only [pa]
              refine tkA 32 56 (v := ?_) rfl (by kernel_rfl) (fun _ _ _ h => h) (by rfl) ?_ (by assumption) ?_; rotate_left; · (intro w hSw; (try dsimp only at hSw); go_simp; try with_reducible rfl)
              simp only [pa]
              refine tkA 33 57 (v := ?_) rfl (by kernel_rfl) (fun _ _ _ h => h) (by rfl) ?_ (by assumption) ?_; rotate_left; · (intro w hSw; (try dsimp only at hSw); go_simp; try with_reducible rfl)
              simp only [pa]
              refine tkA 34 58 (v := ?_) rfl (by kernel_rfl) (fun _ _ _ h => h) (by rfl) ?_ (by assumption) ?_; rotate_left; · (intro w hSw; (try dsimp only at hSw); go_simp; try with_reducible rfl)
              simp only [pa]
              refine tkA 35 59 (v := ?_) rfl (by kernel_rfl) (fun _ _ _ h => h) (by rfl) ?_ (by assumption) ?_; rotate_left; · (intro w hSw; (try dsimp only at hSw); go_simp; try with_reducible rfl)
              simp only [pa]
              refine tkA 36 60 (v := ?_) rfl (by kernel_rfl) (fun _ _ _ h => h) (by rfl) ?_ (by assumption) ?_; rotate_left; · (intro w hSw; (try dsimp only at hSw); go_simp; try with_reducible rfl)
              simp only [pa]
              refine tkA 37 61 (v := ?_) rfl (by kernel_rfl) (fun _ _ _ h => h) (by rfl) ?_ (by assumption) ?_; rotate_left; · (intro w hSw; (try dsimp only at hSw); go_simp; try with_reducible rfl)
              simp only [pa]
              refine tkA 38 62 (v := ?_) rfl (by kernel_rfl) (fun _ _ _ h => h) (by rfl) ?_ (by assumption) ?_; rotate_left; · (intro w hSw; (try dsimp only at hSw); go_simp; try with_reducible rfl)
              simp only [pa]
              refine tkA 39 63 (v := ?_) rfl (by kernel_rfl) (fun _ _ _ h => h) (by rfl) ?_ (by assumption) ?_; rotate_left; · (intro w hSw; (try dsimp only at hSw); go_simp; try with_reducible rfl)
              simp only [pa]
              refine wpAnyH_ready (rs := [40]) (by kernel_rfl) (by simp) ?_
              refine AllReadyH.cons rfl (fun K hK => ?_) AllReadyH.nil
              go_simp
              go_wp2_with (first | (go_at_call 37; refine (HO.out _).mono ?_; rintro e w4 ⟨rfl, hb4⟩; have b4 := (hHeld.2.2.2.2.2.2.2.2.2.2).trans (hb4.mono (hHeld.2.2.2.2.2.2.2.2.2.2).size)))
              refine hK.out _ _ ?_ (fun hHeld => ?_)
              · try dsimp only
                exact HSx.out _ b4
              clear hK K
              refine tkA 41 65 (v := ?_) rfl (by kernel_rfl) (fun _ _ _ h => h) (by rfl) ?_ (by assumption) ?_; rotate_left; · (intro w hSw; (try dsimp only at hSw); go_simp; try with_reducible rfl)
              simp only [pa]
              refine tkA 42 66 (v := ?_) rfl (by kernel_rfl) (fun _ _ _ h => h) (by rfl) ?_ (by assumption) ?_; rotate_left; · (intro w hSw; (try dsimp only at hSw); go_simp; try with_reducible rfl)
              simp only [pa]
              refine tkA 43 67 (v := ?_) rfl (by kernel_rfl) (fun _ _ _ h => h) (by rfl) ?_ (by assumption) ?_; rotate_left; · (intro w hSw; (try dsimp only at hSw); go_simp; try with_reducible rfl)
              simp only [pa]
              have HE := hidP (hHeld.2.2.2.2.2.2.2.2.2.2)
              refine wpAnyH_done (by kernel_rfl) ?_ _
              clear hHeld
              go_wp2_with fail
              go_roundw
              case rel => exact ⟨k + 1, by omega, by go_num, by rw [HF.out, HNx.out], (fun r h => by rw [HNx.out] at h; cases h; exact HOk.out), HBel.out.trans (HE.out.mono HBel.out.size)⟩
              case measure => simp [intOf]; omega
            · rw [hov] at HPo2 HO
              have HF : Hid ((poolsF none ps && blocksS ps none bs) = false) := hidP (by rw [HPo2.out]; rfl)
              clear HPo2
              go_wp2_with fail
              have HSx : Hid (∀ x, Below wr.heap.size wr x → (x.cell? ⟨w.heap.size, 0, none⟩ = some (.slice (some ⟨p, o, none⟩) np cp) ∧ x.cell? ⟨p, o + k * 5, none⟩ = some (.bool q.p.s) ∧ x.cell? ⟨p, o + k * 5 + 1, none⟩ = some (.int .i64 q.p.H.toInt) ∧ x.cell? ⟨p, o + k * 5 + 2, none⟩ = some (.int .i64 q.p.L.toInt) ∧ x.cell? ⟨p, o + k * 5 + 3, none⟩ = some (.int .i64 q.p.b) ∧ x.cell? ⟨p, o + k * 5 + 4, none⟩ = some (.int .i64 q.n) ∧ x.cell? ⟨p, o + J * 5, none⟩ = some (.bool r.p.s) ∧ x.cell? ⟨p, o + J * 5 + 1, none⟩ = some (.int .i64 r.p.H.toInt) ∧ x.cell? ⟨p, o + J * 5 + 2, none⟩ = some (.int .i64 r.p.L.toInt) ∧ x.cell? ⟨p, o + J * 5 + 3, none⟩ = some (.int .i64 r.p.b) ∧ Below wr.heap.size wr x)) := hidP fun x h =>
                ⟨(h.cell vL).trans v0, (h.cell dL).trans d0, (h.cell dL).trans d1, (h.cell dL).trans d2, (h.cell dL).trans d3, (h.cell dL).trans d4, (h.cell dL).trans e0, (h.cell dL).trans e1, (h.cell dL).trans e2, (h.cell dL).trans e3, h⟩
              refine wp_region_held_drew (S := (fun x => x.cell? ⟨w.heap.size, 0, none⟩ = some (.slice (some ⟨p, o, none⟩) np cp) ∧ x.cell? ⟨p, o + k * 5, none⟩ = some (.bool q.p.s) ∧ x.cell? ⟨p, o + k * 5 + 1, none⟩ = some (.int .i64 q.p.H.toInt) ∧ x.cell? ⟨p, o + k * 5 + 2, none⟩ = some (.int .i64 q.p.L.toInt) ∧ x.cell? ⟨p, o + k * 5 + 3, none⟩ = some (.int .i64 q.p.b) ∧ x.cell? ⟨p, o + k * 5 + 4, none⟩ = some (.int .i64 q.n) ∧ x.cell? ⟨p, o + J * 5, none⟩ = some (.bool r.p.s) ∧ x.cell? ⟨p, o + J * 5 + 1, none⟩ = some (.int .i64 r.p.H.toInt) ∧ x.cell? ⟨p, o + J * 5 + 2, none⟩ = some (.int .i64 r.p.L.toInt) ∧ x.cell? ⟨p, o + J * 5 + 3, none⟩ = some (.int .i64 r.p.b) ∧ Below wr.heap.size wr x)) (by kernel_rfl) ?_ (fun hHeld => ?_)
              · try dsimp only
                exact HSx.out _ (Below.refl _ _).drew
              refine tkA 0 24 (v := ?_) rfl (by kernel_rfl) (fun _ _ _ h => h) (by rfl) ?_ (by assumption) ?_; rotate_left; · (intro w hSw; (try dsimp only at hSw); go_simp; try with_reducible rfl)
              simp only [pa]
              refine tkA 1 25 (v := ?_) rfl (by kernel_rfl) (fun _ _ _ h => h) (by rfl) ?_ (by assumption) ?_; rotate_left; · (intro w hSw; (try dsimp only at hSw); go_simp; try with_reducible rfl)
              simp only [pa]
              refine tkA 2 26 (v := ?_) rfl (by kernel_rfl) (fun _ _ _ h => h) (by rfl) ?_ (by assumption) ?_; rotate_left; · (intro w hSw; (try dsimp only at hSw); go_simp; try with_reducible rfl)
              simp only [pa]
              refine tkA 3 27 (v := ?_) rfl (by kernel_rfl) (fun _ _ _ h => h) (by rfl) ?_ (by assumption) ?_; rotate_left; · (intro w hSw; (try dsimp only at hSw); go_simp; try with_reducible rfl)
              simp only [pa]
              refine tkA 4 28 (v := ?_) rfl (by kernel_rfl) (fun _ _ _ h => h) (by rfl) ?_ (by assumption) ?_; rotate_left; · (intro w hSw; (try dsimp only at hSw); go_simp; try with_reducible rfl)
              simp only [pa]
              refine wpAnyH_ready (rs := [5]) (by kernel_rfl) (by simp) ?_
              refine AllReadyH.cons rfl (fun K hK => ?_) AllReadyH.nil
              go_simp
              go_wp2_with (first | (go_at_call 35; refine (HQ1.out _).mono ?_; rintro e w2 ⟨rfl, hb2⟩; have b2 := (hHeld.2.2.2.2.2.2.2.2.2.2).trans (hb2.mono (hHeld.2.2.2.2.2.2.2.2.2.2).size)))
              refine hK.out _ _ ?_ (fun hHeld => ?_)
              · try dsimp only
                exact HSx.out _ b2
              clear hK K
              refine tkA 6 30 (v := ?_) rfl (by kernel_rfl) (fun _ _ _ h => h) (by rfl) ?_ (by assumption) ?_; rotate_left; · (intro w hSw; (try dsimp only at hSw); go_simp; try with_reducible rfl)
              simp only [pa]
              refine tkA 7 31 (v := ?_) rfl (by kernel_rfl) (fun _ _ _ h => h) (by rfl) ?_ (by assumption) ?_; rotate_left; · (intro w hSw; (try dsimp only at hSw); go_simp; try with_reducible rfl)
              simp only [pa]
              refine tkA 8 32 (v := ?_) rfl (by kernel_rfl) (fun _ _ _ h => h) (by rfl) ?_ (by assumption) ?_; rotate_left; · (intro w hSw; (try dsimp only at hSw); go_simp; try with_reducible rfl)
              simp only [pa]
              refine tkA 9 33 (v := ?_) rfl (by kernel_rfl) (fun _ _ _ h => h) (by rfl) ?_ (by assumption) ?_; rotate_left; · (intro w hSw; (try dsimp only at hSw); go_simp; try with_reducible rfl)
              simp only [pa]
              refine tkA 10 34 (v := ?_) rfl (by kernel_rfl) (fun _ _ _ h => h) (by rfl) ?_ (by assumption) ?_; rotate_left; · (intro w hSw; (try dsimp only at hSw); go_simp; try with_reducible rfl)
              simp only [pa]
              refine tkA 11 35 (v := ?_) rfl (by kernel_rfl) (fun _ _ _ h => h) (by rfl) ?_ (by assumption) ?_; rotate_left; · (intro w hSw; (try dsimp only at hSw); go_simp; try with_reducible rfl)
              simp only [pa]
              refine tkA 12 36 (v := ?_) rfl (by kernel_rfl) (fun _ _ _ h => h) (by rfl) ?_ (by assumption) ?_; rotate_left; · (intro w hSw; (try dsimp only at hSw); go_simp; try with_reducible rfl)
              simp only [pa]
              refine tkA 13 37 (v := ?_) rfl (by kernel_rfl) (fun _ _ _ h => h) (by rfl) ?_ (by assumption) ?_; rotate_left; · (intro w hSw; (try dsimp only at hSw); go_simp; try with_reducible rfl)
              simp only [pa]
              refine tkA 14 38 (v := ?_) rfl (by kernel_rfl) (fun _ _ _ h => h) (by rfl) ?_ (by assumption) ?_; rotate_left; · (intro w hSw; (try dsimp only at hSw); go_simp; try with_reducible rfl)
              simp only [pa]
              refine tkA 15 39 (v := ?_) rfl (by kernel_rfl) (fun _ _ _ h => h) (by rfl) ?_ (by assumption) ?_; rotate_left; · (intro w hSw; (try dsimp only at hSw); go_simp; try with_reducible rfl)
              simp only [pa]
              refine tkA 16 40 (v := ?_) rfl (by kernel_rfl) (fun _ _ _ h => h) (by rfl) ?_ (by assumption) ?_; rotate_left; · (intro w hSw; (try dsimp only at hSw); go_simp; try with_reducible rfl)
              simp only [pa]
              refine tkA 17 41 (v := ?_) rfl (by kernel_rfl) (fun _ _ _ h => h) (by rfl) ?_ (by assumption) ?_; rotate_left; · (intro w hSw; (try dsimp only at hSw); go_simp; try with_reducible rfl)
              simp only [pa]
              refine tkA 18 42 (v := ?_) rfl (by kernel_rfl) (fun _ _ _ h => h) (by rfl) ?_ (by assumption) ?_; rotate_left; · (intro w hSw; (try dsimp only at hSw); go_simp; try with_reducible rfl)
              simp only [pa]
              refine tkA 19 43 (v := ?_) rfl (by kernel_rfl) (fun _ _ _ h => h) (by rfl) ?_ (by assumption) ?_; rotate_left; · (intro w hSw; (try dsimp only at hSw); go_simp; try with_reducible rfl)
              simp only [pa]
              refine tkA 20 44 (v := ?_) rfl (by kernel_rfl) (fun _ _ _ h => h) (by rfl) ?_ (by assumption) ?_; rotate_left; · (intro w hSw; (try dsimp only at hSw); go_simp; try with_reducible rfl)
              simp only [pa]
              refine tkA 21 45 (v := ?_) rfl (by kernel_rfl) (fun _ _ _ h => h) (by rfl) ?_ (by assumption) ?_; rotate_left; · (intro w hSw; (try dsimp only at hSw); go_simp; try with_reducible rfl)
              simp only [pa]
              refine tkA 22 46 (v := ?_) rfl (by kernel_rfl) (fun _ _ _ h => h) (by rfl) ?_ (by assumption) ?_; rotate_left; · (intro w hSw; (try dsimp only at hSw); go_simp; try with_reducible rfl)
              simp only [pa]
              refine tkA 23 47 (v := ?_) rfl (by kernel_rfl) (fun _ _ _ h => h) (by rfl) ?_ (by assumption) ?_; rotate_left; · (intro w hSw; (try dsimp only at hSw); go_simp; try with_reducible rfl)
              simp only [pa]
              refine wpAnyH_ready (rs := [24]) (by kernel_rfl) (by simp) ?_
              refine AllReadyH.cons rfl (fun K hK => ?_) AllReadyH.nil
              go_simp
              go_wp2_with (first | (go_at_call 36; refine (HC.out _).mono ?_; rintro e w3 ⟨rfl, hb3⟩; have b3 := (hHeld.2.2.2.2.2.2.2.2.2.2).trans (hb3.mono (hHeld.2.2.2.2.2.2.2.2.2.2).size)))
              refine hK.out _ _ ?_ (fun hHeld => ?_)
              · try dsimp only
                exact HSx.out _ b3
              clear hK K
              refine tkA 25 49 (v := ?_) rfl (by kernel_rfl) (fun _ _ _ h => h) (by rfl) ?_ (by assumption) ?_; rotate_left; · (intro w hSw; (try dsimp only at hSw); go_simp; try with_reducible rfl)
              simp only [pa]
              refine tkA 26 50 (v := ?_) rfl (by kernel_rfl) (fun _ _ _ h => h) (by rfl) ?_ (by assumption) ?_; rotate_left; · (intro w hSw; (try dsimp only at hSw); go_simp; try with_reducible rfl)
              simp only [pa]
              refine tkA 27 51 (v := ?_) rfl (by kernel_rfl) (fun _ _ _ h => h) (by rfl) ?_ (by assumption) ?_; rotate_left; · (intro w hSw; (try dsimp only at hSw); go_simp; try with_reducible rfl)
              simp only [pa]
              refine tkA 28 52 (v := ?_) rfl (by kernel_rfl) (fun _ _ _ h => h) (by rfl) ?_ (by assumption) ?_; rotate_left; · (intro w hSw; (try dsimp only at hSw); go_simp; try with_reducible rfl)
              simp only [pa]
              refine tkA 29 53 (v := ?_) rfl (by kernel_rfl) (fun _ _ _ h => h) (by rfl) ?_ (by assumption) ?_; rotate_left; · (intro w hSw; (try dsimp only at hSw); go_simp; try with_reducible rfl)
              simp only [pa]
              refine tkA 30 54 (v := ?_) rfl (by kernel_rfl) (fun _ _ _ h => h) (by rfl) ?_ (by assumption) ?_; rotate_left; · (intro w hSw; (try dsimp only at hSw); go_simp; try with_reducible rfl)
              simp only [pa]
              refine tkA 31 55 (v := ?_) rfl (by kernel_rfl) (fun _ _ _ h => h) (by rfl) ?_ (by assumption) ?_; rotate_left; · (intro w hSw; (try dsimp only at hSw); go_simp; try with_reducible rfl)
              simp only [pa]
              refine tkA 32 56 (v := ?_) rfl (by kernel_rfl) (fun _ _ _ h => h) (by rfl) ?_ (by assumption) ?_; rotate_left; · (intro w hSw; (try dsimp only at hSw); go_simp; try with_reducible rfl)
              simp only [pa]
              refine tkA 33 57 (v := ?_) rfl (by kernel_rfl) (fun _ _ _ h => h) (by rfl) ?_ (by assumption) ?_; rotate_left; · (intro w hSw; (try dsimp only at hSw); go_simp; try with_reducible rfl)
              simp only [pa]
              refine tkA 34 58 (v := ?_) rfl (by kernel_rfl) (fun _ _ _ h => h) (by rfl) ?_ (by assumption) ?_; rotate_left; · (intro w hSw; (try dsimp only at hSw); go_simp; try with_reducible rfl)
              simp only [pa]
              refine tkA 35 59 (v := ?_) rfl (by kernel_rfl) (fun _ _ _ h => h) (by rfl) ?_ (by assumption) ?_; rotate_left; · (intro w hSw; (try dsimp only at hSw); go_simp; try with_reducible rfl)
              simp only [pa]
              refine tkA 36 60 (v := ?_) rfl (by kernel_rfl) (fun _ _ _ h => h) (by rfl) ?_ (by assumption) ?_; rotate_left; · (intro w hSw; (try dsimp only at hSw); go_simp; try with_reducible rfl)
              simp only [pa]
              refine tkA 37 61 (v := ?_) rfl (by kernel_rfl) (fun _ _ _ h => h) (by rfl) ?_ (by assumption) ?_; rotate_left; · (intro w hSw; (try dsimp only at hSw); go_simp; try with_reducible rfl)
              simp only [pa]
              refine tkA 38 62 (v := ?_) rfl (by kernel_rfl) (fun _ _ _ h => h) (by rfl) ?_ (by assumption) ?_; rotate_left; · (intro w hSw; (try dsimp only at hSw); go_simp; try with_reducible rfl)
              simp only [pa]
              refine tkA 39 63 (v := ?_) rfl (by kernel_rfl) (fun _ _ _ h => h) (by rfl) ?_ (by assumption) ?_; rotate_left; · (intro w hSw; (try dsimp only at hSw); go_simp; try with_reducible rfl)
              simp only [pa]
              refine wpAnyH_ready (rs := [40]) (by kernel_rfl) (by simp) ?_
              refine AllReadyH.cons rfl (fun K hK => ?_) AllReadyH.nil
              go_simp
              go_wp2_with (first | (go_at_call 37; refine (HO.out _).mono ?_; rintro e w4 ⟨rfl, hb4⟩; have b4 := (hHeld.2.2.2.2.2.2.2.2.2.2).trans (hb4.mono (hHeld.2.2.2.2.2.2.2.2.2.2).size)))
              refine hK.out _ _ ?_ (fun hHeld => ?_)
              · try dsimp only
                exact HSx.out _ b4
              clear hK K
              refine tkA 41 65 (v := ?_) rfl (by kernel_rfl) (fun _ _ _ h => h) (by rfl) ?_ (by assumption) ?_; rotate_left; · (intro w hSw; (try dsimp only at hSw); go_simp; try with_reducible rfl)
              simp only [pa]
              refine tkA 42 66 (v := ?_) rfl (by kernel_rfl) (fun _ _ _ h => h) (by rfl) ?_ (by assumption) ?_; rotate_left; · (intro w hSw; (try dsimp only at hSw); go_simp; try with_reducible rfl)
              simp only [pa]
              refine tkA 43 67 (v := ?_) rfl (by kernel_rfl) (fun _ _ _ h => h) (by rfl) ?_ (by assumption) ?_; rotate_left; · (intro w hSw; (try dsimp only at hSw); go_simp; try with_reducible rfl)
              simp only [pa]
              have HE := hidP (hHeld.2.2.2.2.2.2.2.2.2.2)
              refine wpAnyH_done (by kernel_rfl) ?_ _
              clear hHeld
              go_wp2_with fail
              go_ret
              exact ⟨ret_b HF.out.symm, HUB.out.trans ((HBel.out.trans (HE.out.mono HBel.out.size)).mono HUB.out.size)⟩
    · have HPT : Hid (poolsF none ps = true) := by
        rw [List.drop_of_length_le (by have := HNP.out; omega)] at hpo
        exact hidP hpo
      have HBel0 := hidP hbel
      clear hbel hpo hpr
      go_wp2_with fail
      have HPW := hidP (HP1.out.later HBel0.out)
      have HBW := hidP (HB1.out.later HBel0.out)
      go_loopw [4, 5, 6] (fun t4 _ _ ws => ∃ k : Nat, k ≤ nb ∧ t4 = .int .i64 k ∧ blocksS ps none bs = blocksS ps (prvB bs k) (bs.drop k) ∧ (∀ r, prvB bs k = some r → r.pk = true) ∧ Below wr.heap.size wr ws) (fun t4 _ _ _ => nb - (intOf t4).toNat)
      case atStart => exact ⟨0, Nat.zero_le _, rfl, rfl, (fun r h => by cases h), Below.refl _ _⟩
      case round =>
        obtain ⟨i, hi, rfl, hpo, hpr, hbel⟩ := hrel
        have s0 := (hbel.cell vL).trans v0
        have s1 := (hbel.cell vL).trans v1
        have sL : w.heap.size < wr.heap.size := Nat.lt_of_lt_of_le vL hbel.size
        clear v0 v1 vL
        by_cases hlt2 : i < nb
        · obtain ⟨p, o, q, rfl, hp, hq, c0, c1, c2, c3, c4⟩ := rowBk HBW.out i (by rw [← HNB.out]; exact hlt2)
          have d0 := (hbel.cell hp).trans c0
          have d1 := (hbel.cell hp).trans c1
          have d2 := (hbel.cell hp).trans c2
          have d3 := (hbel.cell hp).trans c3
          have d4 := (hbel.cell hp).trans c4
          have dL : p < wr.heap.size := Nat.lt_of_lt_of_le hp hbel.size
          rw [drop_at hq] at hpo
          have hpo' : blocksS ps none bs = (((((q.p.pk && ownB q.t) && decide (0 ≤ lpF q.p 0 ps)) && (bitsAt ps (lpF q.p 0 ps) == q.p.b)) && (match prvB bs i with | none => true | some r => decide (cmpP r q.p < 0))) && blocksS ps (some q.p) (bs.drop (i + 1))) := hpo
          have HNx := hidP (prvB_next hq)
          have HPo := hidP hpo'
          have HPr := hidP hpr
          have HBel := hidP hbel
          have HQ1 := hidP (sPrefixOk_any q.p.s q.p.H q.p.L q.p.b)
          change Hid (∀ w, Calls Tryz.prog 39 _ w fun e w' => e = .returned (.bool q.p.pk) ∧ Below w.heap.size w w') at HQ1
          have HOw := hidP (fun w => sOwnerOk_any q.t w (HST.out q (List.mem_of_getElem? hq)))
          have HL := hidP (fun W h => l5Pool_any q.p ap np cp (some ⟨p, o, none⟩) nb cb ps W HNP.out (HPW.out.later h) (by omega))
          clear c0 c1 c2 c3 c4 hq hpo hpo' hpr hbel
          cases hpk : q.p.pk
          · rw [hpk] at HQ1 HPo
            have HF : Hid ((poolsF none ps && blocksS ps none bs) = false) := hidP (by rw [HPo.out]; simp)
            generalize lpF q.p 0 ps = K at *
            clear HPo HPr HNx HPT
            go_wp2_with fail
            obtain ⟨x0, x1, x2, x3, x4⟩ := boxBk (q := q) wr 67
            have xB := alloc_below wr (.cells #[.bool q.p.s, .int .i64 q.p.H.toInt, .int .i64 q.p.L.toInt, .int .i64 q.p.b, .string q.t] 67)
            have xL := alloc_lt wr (.cells #[.bool q.p.s, .int .i64 q.p.H.toInt, .int .i64 q.p.L.toInt, .int .i64 q.p.b, .string q.t] 67)
            have xS : (wr.alloc (.cells #[.bool q.p.s, .int .i64 q.p.H.toInt, .int .i64 q.p.L.toInt, .int .i64 q.p.b, .string q.t] 67)).heap.size = wr.heap.size + 1 := by simp
            generalize wr.alloc (.cells #[.bool q.p.s, .int .i64 q.p.H.toInt, .int .i64 q.p.L.toInt, .int .i64 q.p.b, .string q.t] 67) = W2 at *
            have n0 := (xB.cell sL).trans s0
            have n1 := (xB.cell sL).trans s1
            have nL : w.heap.size < W2.heap.size := Nat.lt_of_lt_of_le sL xB.size
            have HXB := hidP xB
            clear xS xB
            go_wp2_with fail
            refine (HL.out W2 (HBel.out.trans (HXB.out.mono HBel.out.size))).mono ?_
            rintro e w3 ⟨rfl, hb3⟩
            have x0' := (hb3.cell xL).trans x0
            have x1' := (hb3.cell xL).trans x1
            have x2' := (hb3.cell xL).trans x2
            have x3' := (hb3.cell xL).trans x3
            have x4' := (hb3.cell xL).trans x4
            have xL' : wr.heap.size < w3.heap.size := Nat.lt_of_lt_of_le xL hb3.size
            have n0' := (hb3.cell nL).trans n0
            have n1' := (hb3.cell nL).trans n1
            have nL' : w.heap.size < w3.heap.size := Nat.lt_of_lt_of_le nL hb3.size
            have HB3 := hidP hb3
            clear x0 x1 x2 x3 x4 n0 n1 hb3 d0 d1 d2 d3 d4 s0 s1
            go_wp2_with fail
            have HSx : Hid (∀ x, Below w3.heap.size w3 x → (x.cell? ⟨wr.heap.size, 0, none⟩ = some (.bool q.p.s) ∧ x.cell? ⟨wr.heap.size, 1, none⟩ = some (.int .i64 q.p.H.toInt) ∧ x.cell? ⟨wr.heap.size, 2, none⟩ = some (.int .i64 q.p.L.toInt) ∧ x.cell? ⟨wr.heap.size, 3, none⟩ = some (.int .i64 q.p.b) ∧ x.cell? ⟨wr.heap.size, 4, none⟩ = some (.string q.t) ∧ x.cell? ⟨w.heap.size, 0, none⟩ = some (.slice ap np cp) ∧ x.cell? ⟨w.heap.size, 1, none⟩ = some (.slice (some ⟨p, o, none⟩) nb cb) ∧ Below w3.heap.size w3 x)) := hidP fun x h =>
              ⟨(h.cell xL').trans x0', (h.cell xL').trans x1', (h.cell xL').trans x2', (h.cell xL').trans x3', (h.cell xL').trans x4', (h.cell nL').trans n0', (h.cell nL').trans n1', h⟩
            refine wp_region_held_drew (S := (fun x => x.cell? ⟨wr.heap.size, 0, none⟩ = some (.bool q.p.s) ∧ x.cell? ⟨wr.heap.size, 1, none⟩ = some (.int .i64 q.p.H.toInt) ∧ x.cell? ⟨wr.heap.size, 2, none⟩ = some (.int .i64 q.p.L.toInt) ∧ x.cell? ⟨wr.heap.size, 3, none⟩ = some (.int .i64 q.p.b) ∧ x.cell? ⟨wr.heap.size, 4, none⟩ = some (.string q.t) ∧ x.cell? ⟨w.heap.size, 0, none⟩ = some (.slice ap np cp) ∧ x.cell? ⟨w.heap.size, 1, none⟩ = some (.slice (some ⟨p, o, none⟩) nb cb) ∧ Below w3.heap.size w3 x)) (by kernel_rfl) ?_ (fun hHeld => ?_)
            · try dsimp only
              exact HSx.out _ (Below.refl _ _).drew
            refine tkA 0 84 (v := ?_) rfl (by kernel_rfl) (fun _ _ _ h => h) (by rfl) ?_ (by assumption) ?_; rotate_left; · (intro w hSw; (try dsimp only at hSw); go_simp; try with_reducible rfl)
            simp only [pa]
            refine tkA 1 85 (v := ?_) rfl (by kernel_rfl) (fun _ _ _ h => h) (by rfl) ?_ (by assumption) ?_; rotate_left; · (intro w hSw; (try dsimp only at hSw); go_simp; try with_reducible rfl)
            simp only [pa]
            refine wpAnyH_ready (rs := [2]) (by kernel_rfl) (by simp) ?_
            refine AllReadyH.cons rfl (fun K hK => ?_) AllReadyH.nil
            go_simp
            go_wp2_with (first | (go_at_call 39; refine (HQ1.out _).mono ?_; rintro e w5 ⟨rfl, hb5⟩; have b5 := (hHeld.2.2.2.2.2.2.2).trans (hb5.mono (hHeld.2.2.2.2.2.2.2).size)))
            refine hK.out _ _ ?_ (fun hHeld => ?_)
            · try dsimp only
              exact HSx.out _ b5
            clear hK K
            refine tkA 3 87 (v := ?_) rfl (by kernel_rfl) (fun _ _ _ h => h) (by rfl) ?_ (by assumption) ?_; rotate_left; · (intro w hSw; (try dsimp only at hSw); go_simp; try with_reducible rfl)
            simp only [pa]
            refine tkA 4 88 (v := ?_) rfl (by kernel_rfl) (fun _ _ _ h => h) (by rfl) ?_ (by assumption) ?_; rotate_left; · (intro w hSw; (try dsimp only at hSw); go_simp; try with_reducible rfl)
            simp only [pa]
            refine wpAnyH_take (i := 5) (oi := ⟨some 89, _, _, _, _, _⟩) (v := undef) rfl (by kernel_rfl) (by kernel_rfl) (by kernel_rfl) (fun _ _ _ h => h) (Or.inr ⟨by rfl, rfl⟩) (by assumption) ?_
            simp only [pa]
            refine wpAnyH_take (i := 6) (oi := ⟨some 90, _, _, _, _, _⟩) (v := undef) rfl (by kernel_rfl) (by kernel_rfl) (by kernel_rfl) (fun _ _ _ h => h) (Or.inr ⟨by rfl, rfl⟩) (by assumption) ?_
            simp only [pa]
            refine wpAnyH_take (i := 7) (oi := ⟨some 91, _, _, _, _, _⟩) (v := undef) rfl (by kernel_rfl) (by kernel_rfl) (by kernel_rfl) (fun _ _ _ h => h) (Or.inr ⟨by rfl, rfl⟩) (by assumption) ?_
            simp only [pa]
            refine wpAnyH_take (i := 8) (oi := ⟨some 92, _, _, _, _, _⟩) (v := undef) rfl (by kernel_rfl) (by kernel_rfl) (by kernel_rfl) (fun _ _ _ h => h) (Or.inr ⟨by rfl, rfl⟩) (by assumption) ?_
            simp only [pa]
            refine tkA 9 93 (v := ?_) rfl (by kernel_rfl) (fun _ _ _ h => h) (by rfl) ?_ (by assumption) ?_; rotate_left; · (intro w hSw; (try dsimp only at hSw); go_simp; try with_reducible rfl)
            simp only [pa]
            refine tkA 10 94 (v := ?_) rfl (by kernel_rfl) (fun _ _ _ h => h) (by rfl) ?_ (by assumption) ?_; rotate_left; · (intro w hSw; (try dsimp only at hSw); go_simp; try with_reducible rfl)
            simp only [pa]
            refine wpAnyH_take (i := 11) (oi := ⟨some 95, _, _, _, _, _⟩) (v := undef) rfl (by kernel_rfl) (by kernel_rfl) (by kernel_rfl) (fun _ _ _ h => h) (Or.inr ⟨by rfl, rfl⟩) (by assumption) ?_
            simp only [pa]
            refine wpAnyH_take (i := 12) (oi := ⟨some 96, _, _, _, _, _⟩) (v := undef) rfl (by kernel_rfl) (by kernel_rfl) (by kernel_rfl) (fun _ _ _ h => h) (Or.inr ⟨by rfl, rfl⟩) (by assumption) ?_
            simp only [pa]
            refine tkA 13 97 (v := ?_) rfl (by kernel_rfl) (fun _ _ _ h => h) (by rfl) ?_ (by assumption) ?_; rotate_left; · (intro w hSw; (try dsimp only at hSw); go_simp; try with_reducible rfl)
            simp only [pa]
            refine tkA 14 98 (v := ?_) rfl (by kernel_rfl) (fun _ _ _ h => h) (by rfl) ?_ (by assumption) ?_; rotate_left; · (intro w hSw; (try dsimp only at hSw); go_simp; try with_reducible rfl)
            simp only [pa]
            refine wpAnyH_take (i := 15) (oi := ⟨some 99, _, _, _, _, _⟩) (v := undef) rfl (by kernel_rfl) (by kernel_rfl) (by kernel_rfl) (fun _ _ _ h => h) (Or.inr ⟨by rfl, rfl⟩) (by assumption) ?_
            simp only [pa]
            refine wpAnyH_take (i := 16) (oi := ⟨some 100, _, _, _, _, _⟩) (v := undef) rfl (by kernel_rfl) (by kernel_rfl) (by kernel_rfl) (fun _ _ _ h => h) (Or.inr ⟨by rfl, rfl⟩) (by assumption) ?_
            simp only [pa]
            refine wpAnyH_take (i := 17) (oi := ⟨some 101, _, _, _, _, _⟩) (v := undef) rfl (by kernel_rfl) (by kernel_rfl) (by kernel_rfl) (fun _ _ _ h => h) (Or.inr ⟨by rfl, rfl⟩) (by assumption) ?_
            simp only [pa]
            refine wpAnyH_take (i := 18) (oi := ⟨some 102, _, _, _, _, _⟩) (v := undef) rfl (by kernel_rfl) (by kernel_rfl) (by kernel_rfl) (fun _ _ _ h => h) (Or.inr ⟨by rfl, rfl⟩) (by assumption) ?_
            simp only [pa]
            refine wpAnyH_take (i := 19) (oi := ⟨some 103, _, _, _, _, _⟩) (v := undef) rfl (by kernel_rfl) (by kernel_rfl) (by kernel_rfl) (fun _ _ _ h => h) (Or.inr ⟨by rfl, rfl⟩) (by assumption) ?_
            simp only [pa]
            refine wpAnyH_take (i := 20) (oi := ⟨some 104, _, _, _, _, _⟩) (v := undef) rfl (by kernel_rfl) (by kernel_rfl) (by kernel_rfl) (fun _ _ _ h => h) (Or.inr ⟨by rfl, rfl⟩) (by assumption) ?_
            simp only [pa]
            refine wpAnyH_take (i := 21) (oi := ⟨some 105, _, _, _, _, _⟩) (v := undef) rfl (by kernel_rfl) (by kernel_rfl) (by kernel_rfl) (fun _ _ _ h => h) (Or.inr ⟨by rfl, rfl⟩) (by assumption) ?_
            simp only [pa]
            refine wpAnyH_take (i := 22) (oi := ⟨some 106, _, _, _, _, _⟩) (v := undef) rfl (by kernel_rfl) (by kernel_rfl) (by kernel_rfl) (fun _ _ _ h => h) (Or.inr ⟨by rfl, rfl⟩) (by assumption) ?_
            simp only [pa]
            refine wpAnyH_take (i := 23) (oi := ⟨some 107, _, _, _, _, _⟩) (v := undef) rfl (by kernel_rfl) (by kernel_rfl) (by kernel_rfl) (fun _ _ _ h => h) (Or.inr ⟨by rfl, rfl⟩) (by assumption) ?_
            simp only [pa]
            refine wpAnyH_take (i := 24) (oi := ⟨some 108, _, _, _, _, _⟩) (v := undef) rfl (by kernel_rfl) (by kernel_rfl) (by kernel_rfl) (fun _ _ _ h => h) (Or.inr ⟨by rfl, rfl⟩) (by assumption) ?_
            simp only [pa]
            refine tkA 25 109 (v := ?_) rfl (by kernel_rfl) (fun _ _ _ h => h) (by rfl) ?_ (by assumption) ?_; rotate_left; · (intro w hSw; (try dsimp only at hSw); go_simp; try with_reducible rfl)
            simp only [pa]
            refine tkA 26 110 (v := ?_) rfl (by kernel_rfl) (fun _ _ _ h => h) (by rfl) ?_ (by assumption) ?_; rotate_left; · (intro w hSw; (try dsimp only at hSw); go_simp; try with_reducible rfl)
            simp only [pa]
            refine wpAnyH_take (i := 27) (oi := ⟨some 111, _, _, _, _, _⟩) (v := undef) rfl (by kernel_rfl) (by kernel_rfl) (by kernel_rfl) (fun _ _ _ h => h) (Or.inr ⟨by rfl, rfl⟩) (by assumption) ?_
            simp only [pa]
            refine wpAnyH_take (i := 28) (oi := ⟨some 112, _, _, _, _, _⟩) (v := undef) rfl (by kernel_rfl) (by kernel_rfl) (by kernel_rfl) (fun _ _ _ h => h) (Or.inr ⟨by rfl, rfl⟩) (by assumption) ?_
            simp only [pa]
            refine wpAnyH_take (i := 29) (oi := ⟨some 113, _, _, _, _, _⟩) (v := undef) rfl (by kernel_rfl) (by kernel_rfl) (by kernel_rfl) (fun _ _ _ h => h) (Or.inr ⟨by rfl, rfl⟩) (by assumption) ?_
            simp only [pa]
            refine wpAnyH_take (i := 30) (oi := ⟨some 114, _, _, _, _, _⟩) (v := undef) rfl (by kernel_rfl) (by kernel_rfl) (by kernel_rfl) (fun _ _ _ h => h) (Or.inr ⟨by rfl, rfl⟩) (by assumption) ?_
            simp only [pa]
            refine wpAnyH_take (i := 31) (oi := ⟨some 115, _, _, _, _, _⟩) (v := undef) rfl (by kernel_rfl) (by kernel_rfl) (by kernel_rfl) (fun _ _ _ h => h) (Or.inr ⟨by rfl, rfl⟩) (by assumption) ?_
            simp only [pa]
            refine wpAnyH_take (i := 32) (oi := ⟨some 116, _, _, _, _, _⟩) (v := undef) rfl (by kernel_rfl) (by kernel_rfl) (by kernel_rfl) (fun _ _ _ h => h) (Or.inr ⟨by rfl, rfl⟩) (by assumption) ?_
            simp only [pa]
            refine wpAnyH_take (i := 33) (oi := ⟨some 117, _, _, _, _, _⟩) (v := undef) rfl (by kernel_rfl) (by kernel_rfl) (by kernel_rfl) (fun _ _ _ h => h) (Or.inr ⟨by rfl, rfl⟩) (by assumption) ?_
            simp only [pa]
            refine wpAnyH_take (i := 34) (oi := ⟨some 118, _, _, _, _, _⟩) (v := undef) rfl (by kernel_rfl) (by kernel_rfl) (by kernel_rfl) (fun _ _ _ h => h) (Or.inr ⟨by rfl, rfl⟩) (by assumption) ?_
            simp only [pa]
            refine wpAnyH_take (i := 35) (oi := ⟨some 119, _, _, _, _, _⟩) (v := undef) rfl (by kernel_rfl) (by kernel_rfl) (by kernel_rfl) (fun _ _ _ h => h) (Or.inr ⟨by rfl, rfl⟩) (by assumption) ?_
            simp only [pa]
            refine wpAnyH_take (i := 36) (oi := ⟨some 120, _, _, _, _, _⟩) (v := undef) rfl (by kernel_rfl) (by kernel_rfl) (by kernel_rfl) (fun _ _ _ h => h) (Or.inr ⟨by rfl, rfl⟩) (by assumption) ?_
            simp only [pa]
            refine wpAnyH_take (i := 37) (oi := ⟨some 121, _, _, _, _, _⟩) (v := undef) rfl (by kernel_rfl) (by kernel_rfl) (by kernel_rfl) (fun _ _ _ h => h) (Or.inr ⟨by rfl, rfl⟩) (by assumption) ?_
            simp only [pa]
            refine wpAnyH_take (i := 38) (oi := ⟨some 122, _, _, _, _, _⟩) (v := undef) rfl (by kernel_rfl) (by kernel_rfl) (by kernel_rfl) (fun _ _ _ h => h) (Or.inr ⟨by rfl, rfl⟩) (by assumption) ?_
            simp only [pa]
            refine wpAnyH_take (i := 39) (oi := ⟨some 123, _, _, _, _, _⟩) (v := undef) rfl (by kernel_rfl) (by kernel_rfl) (by kernel_rfl) (fun _ _ _ h => h) (Or.inr ⟨by rfl, rfl⟩) (by assumption) ?_
            simp only [pa]
            refine wpAnyH_take (i := 40) (oi := ⟨some 124, _, _, _, _, _⟩) (v := undef) rfl (by kernel_rfl) (by kernel_rfl) (by kernel_rfl) (fun _ _ _ h => h) (Or.inr ⟨by rfl, rfl⟩) (by assumption) ?_
            simp only [pa]
            refine wpAnyH_take (i := 41) (oi := ⟨some 125, _, _, _, _, _⟩) (v := undef) rfl (by kernel_rfl) (by kernel_rfl) (by kernel_rfl) (fun _ _ _ h => h) (Or.inr ⟨by rfl, rfl⟩) (by assumption) ?_
            simp only [pa]
            refine tkA 42 126 (v := ?_) rfl (by kernel_rfl) (fun _ _ _ h => h) (by rfl) ?_ (by assumption) ?_; rotate_left; · (intro w hSw; (try dsimp only at hSw); go_simp; try with_reducible rfl)
            simp only [pa]
            have HE := hidP (hHeld.2.2.2.2.2.2.2)
            refine wpAnyH_done (by kernel_rfl) ?_ _
            clear hHeld
            go_wp2_with fail
            go_ret
            exact ⟨ret_b HF.out.symm, HUB.out.trans ((HBel0.out.trans ((HBel.out.trans ((below_box HXB.out HXB.out.size HB3.out HE.out).mono HBel.out.size)).mono HBel0.out.size)).mono HUB.out.size)⟩
          · rw [hpk] at HQ1 HPo
            have HPk := hidP hpk
            cases how : ownB q.t
            · rw [how] at HOw HPo
              have HF : Hid ((poolsF none ps && blocksS ps none bs) = false) := hidP (by rw [HPo.out]; simp)
              generalize lpF q.p 0 ps = K at *
              clear HPo HPr HNx HPT
              go_wp2_with fail
              obtain ⟨x0, x1, x2, x3, x4⟩ := boxBk (q := q) wr 67
              have xB := alloc_below wr (.cells #[.bool q.p.s, .int .i64 q.p.H.toInt, .int .i64 q.p.L.toInt, .int .i64 q.p.b, .string q.t] 67)
              have xL := alloc_lt wr (.cells #[.bool q.p.s, .int .i64 q.p.H.toInt, .int .i64 q.p.L.toInt, .int .i64 q.p.b, .string q.t] 67)
              have xS : (wr.alloc (.cells #[.bool q.p.s, .int .i64 q.p.H.toInt, .int .i64 q.p.L.toInt, .int .i64 q.p.b, .string q.t] 67)).heap.size = wr.heap.size + 1 := by simp
              generalize wr.alloc (.cells #[.bool q.p.s, .int .i64 q.p.H.toInt, .int .i64 q.p.L.toInt, .int .i64 q.p.b, .string q.t] 67) = W2 at *
              have n0 := (xB.cell sL).trans s0
              have n1 := (xB.cell sL).trans s1
              have nL : w.heap.size < W2.heap.size := Nat.lt_of_lt_of_le sL xB.size
              have HXB := hidP xB
              clear xS xB
              go_wp2_with fail
              refine (HL.out W2 (HBel.out.trans (HXB.out.mono HBel.out.size))).mono ?_
              rintro e w3 ⟨rfl, hb3⟩
              have x0' := (hb3.cell xL).trans x0
              have x1' := (hb3.cell xL).trans x1
              have x2' := (hb3.cell xL).trans x2
              have x3' := (hb3.cell xL).trans x3
              have x4' := (hb3.cell xL).trans x4
              have xL' : wr.heap.size < w3.heap.size := Nat.lt_of_lt_of_le xL hb3.size
              have n0' := (hb3.cell nL).trans n0
              have n1' := (hb3.cell nL).trans n1
              have nL' : w.heap.size < w3.heap.size := Nat.lt_of_lt_of_le nL hb3.size
              have HB3 := hidP hb3
              clear x0 x1 x2 x3 x4 n0 n1 hb3 d0 d1 d2 d3 d4 s0 s1
              go_wp2_with fail
              have HSx : Hid (∀ x, Below w3.heap.size w3 x → (x.cell? ⟨wr.heap.size, 0, none⟩ = some (.bool q.p.s) ∧ x.cell? ⟨wr.heap.size, 1, none⟩ = some (.int .i64 q.p.H.toInt) ∧ x.cell? ⟨wr.heap.size, 2, none⟩ = some (.int .i64 q.p.L.toInt) ∧ x.cell? ⟨wr.heap.size, 3, none⟩ = some (.int .i64 q.p.b) ∧ x.cell? ⟨wr.heap.size, 4, none⟩ = some (.string q.t) ∧ x.cell? ⟨w.heap.size, 0, none⟩ = some (.slice ap np cp) ∧ x.cell? ⟨w.heap.size, 1, none⟩ = some (.slice (some ⟨p, o, none⟩) nb cb) ∧ Below w3.heap.size w3 x)) := hidP fun x h =>
                ⟨(h.cell xL').trans x0', (h.cell xL').trans x1', (h.cell xL').trans x2', (h.cell xL').trans x3', (h.cell xL').trans x4', (h.cell nL').trans n0', (h.cell nL').trans n1', h⟩
              refine wp_region_held_drew (S := (fun x => x.cell? ⟨wr.heap.size, 0, none⟩ = some (.bool q.p.s) ∧ x.cell? ⟨wr.heap.size, 1, none⟩ = some (.int .i64 q.p.H.toInt) ∧ x.cell? ⟨wr.heap.size, 2, none⟩ = some (.int .i64 q.p.L.toInt) ∧ x.cell? ⟨wr.heap.size, 3, none⟩ = some (.int .i64 q.p.b) ∧ x.cell? ⟨wr.heap.size, 4, none⟩ = some (.string q.t) ∧ x.cell? ⟨w.heap.size, 0, none⟩ = some (.slice ap np cp) ∧ x.cell? ⟨w.heap.size, 1, none⟩ = some (.slice (some ⟨p, o, none⟩) nb cb) ∧ Below w3.heap.size w3 x)) (by kernel_rfl) ?_ (fun hHeld => ?_)
              · try dsimp only
                exact HSx.out _ (Below.refl _ _).drew
              refine tkA 0 84 (v := ?_) rfl (by kernel_rfl) (fun _ _ _ h => h) (by rfl) ?_ (by assumption) ?_; rotate_left; · (intro w hSw; (try dsimp only at hSw); go_simp; try with_reducible rfl)
              simp only [pa]
              refine tkA 1 85 (v := ?_) rfl (by kernel_rfl) (fun _ _ _ h => h) (by rfl) ?_ (by assumption) ?_; rotate_left; · (intro w hSw; (try dsimp only at hSw); go_simp; try with_reducible rfl)
              simp only [pa]
              refine wpAnyH_ready (rs := [2]) (by kernel_rfl) (by simp) ?_
              refine AllReadyH.cons rfl (fun K hK => ?_) AllReadyH.nil
              go_simp
              go_wp2_with (first | (go_at_call 39; refine (HQ1.out _).mono ?_; rintro e w5 ⟨rfl, hb5⟩; have b5 := (hHeld.2.2.2.2.2.2.2).trans (hb5.mono (hHeld.2.2.2.2.2.2.2).size)))
              refine hK.out _ _ ?_ (fun hHeld => ?_)
              · try dsimp only
                exact HSx.out _ b5
              clear hK K
              refine tkA 3 87 (v := ?_) rfl (by kernel_rfl) (fun _ _ _ h => h) (by rfl) ?_ (by assumption) ?_; rotate_left; · (intro w hSw; (try dsimp only at hSw); go_simp; try with_reducible rfl)
              simp only [pa]
              refine tkA 4 88 (v := ?_) rfl (by kernel_rfl) (fun _ _ _ h => h) (by rfl) ?_ (by assumption) ?_; rotate_left; · (intro w hSw; (try dsimp only at hSw); go_simp; try with_reducible rfl)
              simp only [pa]
              refine tkA 5 89 (v := ?_) rfl (by kernel_rfl) (fun _ _ _ h => h) (by rfl) ?_ (by assumption) ?_; rotate_left; · (intro w hSw; (try dsimp only at hSw); go_simp; try with_reducible rfl)
              simp only [pa]
              refine tkA 6 90 (v := ?_) rfl (by kernel_rfl) (fun _ _ _ h => h) (by rfl) ?_ (by assumption) ?_; rotate_left; · (intro w hSw; (try dsimp only at hSw); go_simp; try with_reducible rfl)
              simp only [pa]
              refine wpAnyH_ready (rs := [7]) (by kernel_rfl) (by simp) ?_
              refine AllReadyH.cons rfl (fun K hK => ?_) AllReadyH.nil
              go_simp
              go_wp2_with (first | (go_at_call 40; refine (HOw.out _).mono ?_; rintro e w' ⟨rfl, rfl⟩))
              refine hK.out _ _ ?_ (fun hHeld => ?_)
              · try dsimp only
                exact HSx.out _ (hHeld.2.2.2.2.2.2.2)
              clear hK K
              refine tkA 8 92 (v := ?_) rfl (by kernel_rfl) (fun _ _ _ h => h) (by rfl) ?_ (by assumption) ?_; rotate_left; · (intro w hSw; (try dsimp only at hSw); go_simp; try with_reducible rfl)
              simp only [pa]
              refine tkA 9 93 (v := ?_) rfl (by kernel_rfl) (fun _ _ _ h => h) (by rfl) ?_ (by assumption) ?_; rotate_left; · (intro w hSw; (try dsimp only at hSw); go_simp; try with_reducible rfl)
              simp only [pa]
              refine tkA 10 94 (v := ?_) rfl (by kernel_rfl) (fun _ _ _ h => h) (by rfl) ?_ (by assumption) ?_; rotate_left; · (intro w hSw; (try dsimp only at hSw); go_simp; try with_reducible rfl)
              simp only [pa]
              refine wpAnyH_take (i := 11) (oi := ⟨some 95, _, _, _, _, _⟩) (v := undef) rfl (by kernel_rfl) (by kernel_rfl) (by kernel_rfl) (fun _ _ _ h => h) (Or.inr ⟨by rfl, rfl⟩) (by assumption) ?_
              simp only [pa]
              refine wpAnyH_take (i := 12) (oi := ⟨some 96, _, _, _, _, _⟩) (v := undef) rfl (by kernel_rfl) (by kernel_rfl) (by kernel_rfl) (fun _ _ _ h => h) (Or.inr ⟨by rfl, rfl⟩) (by assumption) ?_
              simp only [pa]
              refine tkA 13 97 (v := ?_) rfl (by kernel_rfl) (fun _ _ _ h => h) (by rfl) ?_ (by assumption) ?_; rotate_left; · (intro w hSw; (try dsimp only at hSw); go_simp; try with_reducible rfl)
              simp only [pa]
              refine tkA 14 98 (v := ?_) rfl (by kernel_rfl) (fun _ _ _ h => h) (by rfl) ?_ (by assumption) ?_; rotate_left; · (intro w hSw; (try dsimp only at hSw); go_simp; try with_reducible rfl)
              simp only [pa]
              refine wpAnyH_take (i := 15) (oi := ⟨some 99, _, _, _, _, _⟩) (v := undef) rfl (by kernel_rfl) (by kernel_rfl) (by kernel_rfl) (fun _ _ _ h => h) (Or.inr ⟨by rfl, rfl⟩) (by assumption) ?_
              simp only [pa]
              refine wpAnyH_take (i := 16) (oi := ⟨some 100, _, _, _, _, _⟩) (v := undef) rfl (by kernel_rfl) (by kernel_rfl) (by kernel_rfl) (fun _ _ _ h => h) (Or.inr ⟨by rfl, rfl⟩) (by assumption) ?_
              simp only [pa]
              refine wpAnyH_take (i := 17) (oi := ⟨some 101, _, _, _, _, _⟩) (v := undef) rfl (by kernel_rfl) (by kernel_rfl) (by kernel_rfl) (fun _ _ _ h => h) (Or.inr ⟨by rfl, rfl⟩) (by assumption) ?_
              simp only [pa]
              refine wpAnyH_take (i := 18) (oi := ⟨some 102, _, _, _, _, _⟩) (v := undef) rfl (by kernel_rfl) (by kernel_rfl) (by kernel_rfl) (fun _ _ _ h => h) (Or.inr ⟨by rfl, rfl⟩) (by assumption) ?_
              simp only [pa]
              refine wpAnyH_take (i := 19) (oi := ⟨some 103, _, _, _, _, _⟩) (v := undef) rfl (by kernel_rfl) (by kernel_rfl) (by kernel_rfl) (fun _ _ _ h => h) (Or.inr ⟨by rfl, rfl⟩) (by assumption) ?_
              simp only [pa]
              refine wpAnyH_take (i := 20) (oi := ⟨some 104, _, _, _, _, _⟩) (v := undef) rfl (by kernel_rfl) (by kernel_rfl) (by kernel_rfl) (fun _ _ _ h => h) (Or.inr ⟨by rfl, rfl⟩) (by assumption) ?_
              simp only [pa]
              refine wpAnyH_take (i := 21) (oi := ⟨some 105, _, _, _, _, _⟩) (v := undef) rfl (by kernel_rfl) (by kernel_rfl) (by kernel_rfl) (fun _ _ _ h => h) (Or.inr ⟨by rfl, rfl⟩) (by assumption) ?_
              simp only [pa]
              refine wpAnyH_take (i := 22) (oi := ⟨some 106, _, _, _, _, _⟩) (v := undef) rfl (by kernel_rfl) (by kernel_rfl) (by kernel_rfl) (fun _ _ _ h => h) (Or.inr ⟨by rfl, rfl⟩) (by assumption) ?_
              simp only [pa]
              refine wpAnyH_take (i := 23) (oi := ⟨some 107, _, _, _, _, _⟩) (v := undef) rfl (by kernel_rfl) (by kernel_rfl) (by kernel_rfl) (fun _ _ _ h => h) (Or.inr ⟨by rfl, rfl⟩) (by assumption) ?_
              simp only [pa]
              refine wpAnyH_take (i := 24) (oi := ⟨some 108, _, _, _, _, _⟩) (v := undef) rfl (by kernel_rfl) (by kernel_rfl) (by kernel_rfl) (fun _ _ _ h => h) (Or.inr ⟨by rfl, rfl⟩) (by assumption) ?_
              simp only [pa]
              refine tkA 25 109 (v := ?_) rfl (by kernel_rfl) (fun _ _ _ h => h) (by rfl) ?_ (by assumption) ?_; rotate_left; · (intro w hSw; (try dsimp only at hSw); go_simp; try with_reducible rfl)
              simp only [pa]
              refine tkA 26 110 (v := ?_) rfl (by kernel_rfl) (fun _ _ _ h => h) (by rfl) ?_ (by assumption) ?_; rotate_left; · (intro w hSw; (try dsimp only at hSw); go_simp; try with_reducible rfl)
              simp only [pa]
              refine wpAnyH_take (i := 27) (oi := ⟨some 111, _, _, _, _, _⟩) (v := undef) rfl (by kernel_rfl) (by kernel_rfl) (by kernel_rfl) (fun _ _ _ h => h) (Or.inr ⟨by rfl, rfl⟩) (by assumption) ?_
              simp only [pa]
              refine wpAnyH_take (i := 28) (oi := ⟨some 112, _, _, _, _, _⟩) (v := undef) rfl (by kernel_rfl) (by kernel_rfl) (by kernel_rfl) (fun _ _ _ h => h) (Or.inr ⟨by rfl, rfl⟩) (by assumption) ?_
              simp only [pa]
              refine wpAnyH_take (i := 29) (oi := ⟨some 113, _, _, _, _, _⟩) (v := undef) rfl (by kernel_rfl) (by kernel_rfl) (by kernel_rfl) (fun _ _ _ h => h) (Or.inr ⟨by rfl, rfl⟩) (by assumption) ?_
              simp only [pa]
              refine wpAnyH_take (i := 30) (oi := ⟨some 114, _, _, _, _, _⟩) (v := undef) rfl (by kernel_rfl) (by kernel_rfl) (by kernel_rfl) (fun _ _ _ h => h) (Or.inr ⟨by rfl, rfl⟩) (by assumption) ?_
              simp only [pa]
              refine wpAnyH_take (i := 31) (oi := ⟨some 115, _, _, _, _, _⟩) (v := undef) rfl (by kernel_rfl) (by kernel_rfl) (by kernel_rfl) (fun _ _ _ h => h) (Or.inr ⟨by rfl, rfl⟩) (by assumption) ?_
              simp only [pa]
              refine wpAnyH_take (i := 32) (oi := ⟨some 116, _, _, _, _, _⟩) (v := undef) rfl (by kernel_rfl) (by kernel_rfl) (by kernel_rfl) (fun _ _ _ h => h) (Or.inr ⟨by rfl, rfl⟩) (by assumption) ?_
              simp only [pa]
              refine wpAnyH_take (i := 33) (oi := ⟨some 117, _, _, _, _, _⟩) (v := undef) rfl (by kernel_rfl) (by kernel_rfl) (by kernel_rfl) (fun _ _ _ h => h) (Or.inr ⟨by rfl, rfl⟩) (by assumption) ?_
              simp only [pa]
              refine wpAnyH_take (i := 34) (oi := ⟨some 118, _, _, _, _, _⟩) (v := undef) rfl (by kernel_rfl) (by kernel_rfl) (by kernel_rfl) (fun _ _ _ h => h) (Or.inr ⟨by rfl, rfl⟩) (by assumption) ?_
              simp only [pa]
              refine wpAnyH_take (i := 35) (oi := ⟨some 119, _, _, _, _, _⟩) (v := undef) rfl (by kernel_rfl) (by kernel_rfl) (by kernel_rfl) (fun _ _ _ h => h) (Or.inr ⟨by rfl, rfl⟩) (by assumption) ?_
              simp only [pa]
              refine wpAnyH_take (i := 36) (oi := ⟨some 120, _, _, _, _, _⟩) (v := undef) rfl (by kernel_rfl) (by kernel_rfl) (by kernel_rfl) (fun _ _ _ h => h) (Or.inr ⟨by rfl, rfl⟩) (by assumption) ?_
              simp only [pa]
              refine wpAnyH_take (i := 37) (oi := ⟨some 121, _, _, _, _, _⟩) (v := undef) rfl (by kernel_rfl) (by kernel_rfl) (by kernel_rfl) (fun _ _ _ h => h) (Or.inr ⟨by rfl, rfl⟩) (by assumption) ?_
              simp only [pa]
              refine wpAnyH_take (i := 38) (oi := ⟨some 122, _, _, _, _, _⟩) (v := undef) rfl (by kernel_rfl) (by kernel_rfl) (by kernel_rfl) (fun _ _ _ h => h) (Or.inr ⟨by rfl, rfl⟩) (by assumption) ?_
              simp only [pa]
              refine wpAnyH_take (i := 39) (oi := ⟨some 123, _, _, _, _, _⟩) (v := undef) rfl (by kernel_rfl) (by kernel_rfl) (by kernel_rfl) (fun _ _ _ h => h) (Or.inr ⟨by rfl, rfl⟩) (by assumption) ?_
              simp only [pa]
              refine wpAnyH_take (i := 40) (oi := ⟨some 124, _, _, _, _, _⟩) (v := undef) rfl (by kernel_rfl) (by kernel_rfl) (by kernel_rfl) (fun _ _ _ h => h) (Or.inr ⟨by rfl, rfl⟩) (by assumption) ?_
              simp only [pa]
              refine wpAnyH_take (i := 41) (oi := ⟨some 125, _, _, _, _, _⟩) (v := undef) rfl (by kernel_rfl) (by kernel_rfl) (by kernel_rfl) (fun _ _ _ h => h) (Or.inr ⟨by rfl, rfl⟩) (by assumption) ?_
              simp only [pa]
              refine tkA 42 126 (v := ?_) rfl (by kernel_rfl) (fun _ _ _ h => h) (by rfl) ?_ (by assumption) ?_; rotate_left; · (intro w hSw; (try dsimp only at hSw); go_simp; try with_reducible rfl)
              simp only [pa]
              have HE := hidP (hHeld.2.2.2.2.2.2.2)
              refine wpAnyH_done (by kernel_rfl) ?_ _
              clear hHeld
              go_wp2_with fail
              go_ret
              exact ⟨ret_b HF.out.symm, HUB.out.trans ((HBel0.out.trans ((HBel.out.trans ((below_box HXB.out HXB.out.size HB3.out HE.out).mono HBel.out.size)).mono HBel0.out.size)).mono HUB.out.size)⟩
            · rw [how] at HOw HPo
              rcases lpF_lt q.p ps 0 with hlp' | ⟨j, pq, hlp', hx⟩
              · have hlp0 : lpF q.p 0 ps = -1 := hlp'
                rw [hlp0] at HL HPo
                have HF : Hid ((poolsF none ps && blocksS ps none bs) = false) := hidP (by rw [HPo.out]; simp)
                clear HPo HPr HNx HPT hlp' hlp0
                go_wp2_with fail
                obtain ⟨x0, x1, x2, x3, x4⟩ := boxBk (q := q) wr 67
                have xB := alloc_below wr (.cells #[.bool q.p.s, .int .i64 q.p.H.toInt, .int .i64 q.p.L.toInt, .int .i64 q.p.b, .string q.t] 67)
                have xL := alloc_lt wr (.cells #[.bool q.p.s, .int .i64 q.p.H.toInt, .int .i64 q.p.L.toInt, .int .i64 q.p.b, .string q.t] 67)
                have xS : (wr.alloc (.cells #[.bool q.p.s, .int .i64 q.p.H.toInt, .int .i64 q.p.L.toInt, .int .i64 q.p.b, .string q.t] 67)).heap.size = wr.heap.size + 1 := by simp
                generalize wr.alloc (.cells #[.bool q.p.s, .int .i64 q.p.H.toInt, .int .i64 q.p.L.toInt, .int .i64 q.p.b, .string q.t] 67) = W2 at *
                have n0 := (xB.cell sL).trans s0
                have n1 := (xB.cell sL).trans s1
                have nL : w.heap.size < W2.heap.size := Nat.lt_of_lt_of_le sL xB.size
                have HXB := hidP xB
                clear xS xB
                go_wp2_with fail
                refine (HL.out W2 (HBel.out.trans (HXB.out.mono HBel.out.size))).mono ?_
                rintro e w3 ⟨rfl, hb3⟩
                have x0' := (hb3.cell xL).trans x0
                have x1' := (hb3.cell xL).trans x1
                have x2' := (hb3.cell xL).trans x2
                have x3' := (hb3.cell xL).trans x3
                have x4' := (hb3.cell xL).trans x4
                have xL' : wr.heap.size < w3.heap.size := Nat.lt_of_lt_of_le xL hb3.size
                have n0' := (hb3.cell nL).trans n0
                have n1' := (hb3.cell nL).trans n1
                have nL' : w.heap.size < w3.heap.size := Nat.lt_of_lt_of_le nL hb3.size
                have HB3 := hidP hb3
                clear x0 x1 x2 x3 x4 n0 n1 hb3 d0 d1 d2 d3 d4 s0 s1
                go_wp2_with fail
                have HSx : Hid (∀ x, Below w3.heap.size w3 x → (x.cell? ⟨wr.heap.size, 0, none⟩ = some (.bool q.p.s) ∧ x.cell? ⟨wr.heap.size, 1, none⟩ = some (.int .i64 q.p.H.toInt) ∧ x.cell? ⟨wr.heap.size, 2, none⟩ = some (.int .i64 q.p.L.toInt) ∧ x.cell? ⟨wr.heap.size, 3, none⟩ = some (.int .i64 q.p.b) ∧ x.cell? ⟨wr.heap.size, 4, none⟩ = some (.string q.t) ∧ x.cell? ⟨w.heap.size, 0, none⟩ = some (.slice ap np cp) ∧ x.cell? ⟨w.heap.size, 1, none⟩ = some (.slice (some ⟨p, o, none⟩) nb cb) ∧ Below w3.heap.size w3 x)) := hidP fun x h =>
                  ⟨(h.cell xL').trans x0', (h.cell xL').trans x1', (h.cell xL').trans x2', (h.cell xL').trans x3', (h.cell xL').trans x4', (h.cell nL').trans n0', (h.cell nL').trans n1', h⟩
                refine wp_region_held_drew (S := (fun x => x.cell? ⟨wr.heap.size, 0, none⟩ = some (.bool q.p.s) ∧ x.cell? ⟨wr.heap.size, 1, none⟩ = some (.int .i64 q.p.H.toInt) ∧ x.cell? ⟨wr.heap.size, 2, none⟩ = some (.int .i64 q.p.L.toInt) ∧ x.cell? ⟨wr.heap.size, 3, none⟩ = some (.int .i64 q.p.b) ∧ x.cell? ⟨wr.heap.size, 4, none⟩ = some (.string q.t) ∧ x.cell? ⟨w.heap.size, 0, none⟩ = some (.slice ap np cp) ∧ x.cell? ⟨w.heap.size, 1, none⟩ = some (.slice (some ⟨p, o, none⟩) nb cb) ∧ Below w3.heap.size w3 x)) (by kernel_rfl) ?_ (fun hHeld => ?_)
                · try dsimp only
                  exact HSx.out _ (Below.refl _ _).drew
                refine tkA 0 84 (v := ?_) rfl (by kernel_rfl) (fun _ _ _ h => h) (by rfl) ?_ (by assumption) ?_; rotate_left; · (intro w hSw; (try dsimp only at hSw); go_simp; try with_reducible rfl)
                simp only [pa]
                refine tkA 1 85 (v := ?_) rfl (by kernel_rfl) (fun _ _ _ h => h) (by rfl) ?_ (by assumption) ?_; rotate_left; · (intro w hSw; (try dsimp only at hSw); go_simp; try with_reducible rfl)
                simp only [pa]
                refine wpAnyH_ready (rs := [2]) (by kernel_rfl) (by simp) ?_
                refine AllReadyH.cons rfl (fun K hK => ?_) AllReadyH.nil
                go_simp
                go_wp2_with (first | (go_at_call 39; refine (HQ1.out _).mono ?_; rintro e w5 ⟨rfl, hb5⟩; have b5 := (hHeld.2.2.2.2.2.2.2).trans (hb5.mono (hHeld.2.2.2.2.2.2.2).size)))
                refine hK.out _ _ ?_ (fun hHeld => ?_)
                · try dsimp only
                  exact HSx.out _ b5
                clear hK K
                refine tkA 3 87 (v := ?_) rfl (by kernel_rfl) (fun _ _ _ h => h) (by rfl) ?_ (by assumption) ?_; rotate_left; · (intro w hSw; (try dsimp only at hSw); go_simp; try with_reducible rfl)
                simp only [pa]
                refine tkA 4 88 (v := ?_) rfl (by kernel_rfl) (fun _ _ _ h => h) (by rfl) ?_ (by assumption) ?_; rotate_left; · (intro w hSw; (try dsimp only at hSw); go_simp; try with_reducible rfl)
                simp only [pa]
                refine tkA 5 89 (v := ?_) rfl (by kernel_rfl) (fun _ _ _ h => h) (by rfl) ?_ (by assumption) ?_; rotate_left; · (intro w hSw; (try dsimp only at hSw); go_simp; try with_reducible rfl)
                simp only [pa]
                refine tkA 6 90 (v := ?_) rfl (by kernel_rfl) (fun _ _ _ h => h) (by rfl) ?_ (by assumption) ?_; rotate_left; · (intro w hSw; (try dsimp only at hSw); go_simp; try with_reducible rfl)
                simp only [pa]
                refine wpAnyH_ready (rs := [7]) (by kernel_rfl) (by simp) ?_
                refine AllReadyH.cons rfl (fun K hK => ?_) AllReadyH.nil
                go_simp
                go_wp2_with (first | (go_at_call 40; refine (HOw.out _).mono ?_; rintro e w' ⟨rfl, rfl⟩))
                refine hK.out _ _ ?_ (fun hHeld => ?_)
                · try dsimp only
                  exact HSx.out _ (hHeld.2.2.2.2.2.2.2)
                clear hK K
                refine tkA 8 92 (v := ?_) rfl (by kernel_rfl) (fun _ _ _ h => h) (by rfl) ?_ (by assumption) ?_; rotate_left; · (intro w hSw; (try dsimp only at hSw); go_simp; try with_reducible rfl)
                simp only [pa]
                refine tkA 9 93 (v := ?_) rfl (by kernel_rfl) (fun _ _ _ h => h) (by rfl) ?_ (by assumption) ?_; rotate_left; · (intro w hSw; (try dsimp only at hSw); go_simp; try with_reducible rfl)
                simp only [pa]
                refine tkA 10 94 (v := ?_) rfl (by kernel_rfl) (fun _ _ _ h => h) (by rfl) ?_ (by assumption) ?_; rotate_left; · (intro w hSw; (try dsimp only at hSw); go_simp; try with_reducible rfl)
                simp only [pa]
                refine tkA 11 95 (v := ?_) rfl (by kernel_rfl) (fun _ _ _ h => h) (by rfl) ?_ (by assumption) ?_; rotate_left; · (intro w hSw; (try dsimp only at hSw); go_simp; try with_reducible rfl)
                simp only [pa]
                refine tkA 12 96 (v := ?_) rfl (by kernel_rfl) (fun _ _ _ h => h) (by rfl) ?_ (by assumption) ?_; rotate_left; · (intro w hSw; (try dsimp only at hSw); go_simp; try with_reducible rfl)
                simp only [pa]
                refine tkA 13 97 (v := ?_) rfl (by kernel_rfl) (fun _ _ _ h => h) (by rfl) ?_ (by assumption) ?_; rotate_left; · (intro w hSw; (try dsimp only at hSw); go_simp; try with_reducible rfl)
                simp only [pa]
                refine tkA 14 98 (v := ?_) rfl (by kernel_rfl) (fun _ _ _ h => h) (by rfl) ?_ (by assumption) ?_; rotate_left; · (intro w hSw; (try dsimp only at hSw); go_simp; try with_reducible rfl)
                simp only [pa]
                refine wpAnyH_take (i := 15) (oi := ⟨some 99, _, _, _, _, _⟩) (v := undef) rfl (by kernel_rfl) (by kernel_rfl) (by kernel_rfl) (fun _ _ _ h => h) (Or.inr ⟨by rfl, rfl⟩) (by assumption) ?_
                simp only [pa]
                refine wpAnyH_take (i := 16) (oi := ⟨some 100, _, _, _, _, _⟩) (v := undef) rfl (by kernel_rfl) (by kernel_rfl) (by kernel_rfl) (fun _ _ _ h => h) (Or.inr ⟨by rfl, rfl⟩) (by assumption) ?_
                simp only [pa]
                refine wpAnyH_take (i := 17) (oi := ⟨some 101, _, _, _, _, _⟩) (v := undef) rfl (by kernel_rfl) (by kernel_rfl) (by kernel_rfl) (fun _ _ _ h => h) (Or.inr ⟨by rfl, rfl⟩) (by assumption) ?_
                simp only [pa]
                refine wpAnyH_take (i := 18) (oi := ⟨some 102, _, _, _, _, _⟩) (v := undef) rfl (by kernel_rfl) (by kernel_rfl) (by kernel_rfl) (fun _ _ _ h => h) (Or.inr ⟨by rfl, rfl⟩) (by assumption) ?_
                simp only [pa]
                refine wpAnyH_take (i := 19) (oi := ⟨some 103, _, _, _, _, _⟩) (v := undef) rfl (by kernel_rfl) (by kernel_rfl) (by kernel_rfl) (fun _ _ _ h => h) (Or.inr ⟨by rfl, rfl⟩) (by assumption) ?_
                simp only [pa]
                refine wpAnyH_take (i := 20) (oi := ⟨some 104, _, _, _, _, _⟩) (v := undef) rfl (by kernel_rfl) (by kernel_rfl) (by kernel_rfl) (fun _ _ _ h => h) (Or.inr ⟨by rfl, rfl⟩) (by assumption) ?_
                simp only [pa]
                refine wpAnyH_take (i := 21) (oi := ⟨some 105, _, _, _, _, _⟩) (v := undef) rfl (by kernel_rfl) (by kernel_rfl) (by kernel_rfl) (fun _ _ _ h => h) (Or.inr ⟨by rfl, rfl⟩) (by assumption) ?_
                simp only [pa]
                refine wpAnyH_take (i := 22) (oi := ⟨some 106, _, _, _, _, _⟩) (v := undef) rfl (by kernel_rfl) (by kernel_rfl) (by kernel_rfl) (fun _ _ _ h => h) (Or.inr ⟨by rfl, rfl⟩) (by assumption) ?_
                simp only [pa]
                refine wpAnyH_take (i := 23) (oi := ⟨some 107, _, _, _, _, _⟩) (v := undef) rfl (by kernel_rfl) (by kernel_rfl) (by kernel_rfl) (fun _ _ _ h => h) (Or.inr ⟨by rfl, rfl⟩) (by assumption) ?_
                simp only [pa]
                refine wpAnyH_take (i := 24) (oi := ⟨some 108, _, _, _, _, _⟩) (v := undef) rfl (by kernel_rfl) (by kernel_rfl) (by kernel_rfl) (fun _ _ _ h => h) (Or.inr ⟨by rfl, rfl⟩) (by assumption) ?_
                simp only [pa]
                refine tkA 25 109 (v := ?_) rfl (by kernel_rfl) (fun _ _ _ h => h) (by rfl) ?_ (by assumption) ?_; rotate_left; · (intro w hSw; (try dsimp only at hSw); go_simp; try with_reducible rfl)
                simp only [pa]
                refine tkA 26 110 (v := ?_) rfl (by kernel_rfl) (fun _ _ _ h => h) (by rfl) ?_ (by assumption) ?_; rotate_left; · (intro w hSw; (try dsimp only at hSw); go_simp; try with_reducible rfl)
                simp only [pa]
                refine wpAnyH_take (i := 27) (oi := ⟨some 111, _, _, _, _, _⟩) (v := undef) rfl (by kernel_rfl) (by kernel_rfl) (by kernel_rfl) (fun _ _ _ h => h) (Or.inr ⟨by rfl, rfl⟩) (by assumption) ?_
                simp only [pa]
                refine wpAnyH_take (i := 28) (oi := ⟨some 112, _, _, _, _, _⟩) (v := undef) rfl (by kernel_rfl) (by kernel_rfl) (by kernel_rfl) (fun _ _ _ h => h) (Or.inr ⟨by rfl, rfl⟩) (by assumption) ?_
                simp only [pa]
                refine wpAnyH_take (i := 29) (oi := ⟨some 113, _, _, _, _, _⟩) (v := undef) rfl (by kernel_rfl) (by kernel_rfl) (by kernel_rfl) (fun _ _ _ h => h) (Or.inr ⟨by rfl, rfl⟩) (by assumption) ?_
                simp only [pa]
                refine wpAnyH_take (i := 30) (oi := ⟨some 114, _, _, _, _, _⟩) (v := undef) rfl (by kernel_rfl) (by kernel_rfl) (by kernel_rfl) (fun _ _ _ h => h) (Or.inr ⟨by rfl, rfl⟩) (by assumption) ?_
                simp only [pa]
                refine wpAnyH_take (i := 31) (oi := ⟨some 115, _, _, _, _, _⟩) (v := undef) rfl (by kernel_rfl) (by kernel_rfl) (by kernel_rfl) (fun _ _ _ h => h) (Or.inr ⟨by rfl, rfl⟩) (by assumption) ?_
                simp only [pa]
                refine wpAnyH_take (i := 32) (oi := ⟨some 116, _, _, _, _, _⟩) (v := undef) rfl (by kernel_rfl) (by kernel_rfl) (by kernel_rfl) (fun _ _ _ h => h) (Or.inr ⟨by rfl, rfl⟩) (by assumption) ?_
                simp only [pa]
                refine wpAnyH_take (i := 33) (oi := ⟨some 117, _, _, _, _, _⟩) (v := undef) rfl (by kernel_rfl) (by kernel_rfl) (by kernel_rfl) (fun _ _ _ h => h) (Or.inr ⟨by rfl, rfl⟩) (by assumption) ?_
                simp only [pa]
                refine wpAnyH_take (i := 34) (oi := ⟨some 118, _, _, _, _, _⟩) (v := undef) rfl (by kernel_rfl) (by kernel_rfl) (by kernel_rfl) (fun _ _ _ h => h) (Or.inr ⟨by rfl, rfl⟩) (by assumption) ?_
                simp only [pa]
                refine wpAnyH_take (i := 35) (oi := ⟨some 119, _, _, _, _, _⟩) (v := undef) rfl (by kernel_rfl) (by kernel_rfl) (by kernel_rfl) (fun _ _ _ h => h) (Or.inr ⟨by rfl, rfl⟩) (by assumption) ?_
                simp only [pa]
                refine wpAnyH_take (i := 36) (oi := ⟨some 120, _, _, _, _, _⟩) (v := undef) rfl (by kernel_rfl) (by kernel_rfl) (by kernel_rfl) (fun _ _ _ h => h) (Or.inr ⟨by rfl, rfl⟩) (by assumption) ?_
                simp only [pa]
                refine wpAnyH_take (i := 37) (oi := ⟨some 121, _, _, _, _, _⟩) (v := undef) rfl (by kernel_rfl) (by kernel_rfl) (by kernel_rfl) (fun _ _ _ h => h) (Or.inr ⟨by rfl, rfl⟩) (by assumption) ?_
                simp only [pa]
                refine wpAnyH_take (i := 38) (oi := ⟨some 122, _, _, _, _, _⟩) (v := undef) rfl (by kernel_rfl) (by kernel_rfl) (by kernel_rfl) (fun _ _ _ h => h) (Or.inr ⟨by rfl, rfl⟩) (by assumption) ?_
                simp only [pa]
                refine wpAnyH_take (i := 39) (oi := ⟨some 123, _, _, _, _, _⟩) (v := undef) rfl (by kernel_rfl) (by kernel_rfl) (by kernel_rfl) (fun _ _ _ h => h) (Or.inr ⟨by rfl, rfl⟩) (by assumption) ?_
                simp only [pa]
                refine wpAnyH_take (i := 40) (oi := ⟨some 124, _, _, _, _, _⟩) (v := undef) rfl (by kernel_rfl) (by kernel_rfl) (by kernel_rfl) (fun _ _ _ h => h) (Or.inr ⟨by rfl, rfl⟩) (by assumption) ?_
                simp only [pa]
                refine wpAnyH_take (i := 41) (oi := ⟨some 125, _, _, _, _, _⟩) (v := undef) rfl (by kernel_rfl) (by kernel_rfl) (by kernel_rfl) (fun _ _ _ h => h) (Or.inr ⟨by rfl, rfl⟩) (by assumption) ?_
                simp only [pa]
                refine tkA 42 126 (v := ?_) rfl (by kernel_rfl) (fun _ _ _ h => h) (by rfl) ?_ (by assumption) ?_; rotate_left; · (intro w hSw; (try dsimp only at hSw); go_simp; try with_reducible rfl)
                simp only [pa]
                have HE := hidP (hHeld.2.2.2.2.2.2.2)
                refine wpAnyH_done (by kernel_rfl) ?_ _
                clear hHeld
                go_wp2_with fail
                go_ret
                exact ⟨ret_b HF.out.symm, HUB.out.trans ((HBel0.out.trans ((HBel.out.trans ((below_box HXB.out HXB.out.size HB3.out HE.out).mono HBel.out.size)).mono HBel0.out.size)).mono HUB.out.size)⟩
              · have hlp0 : lpF q.p 0 ps = (j : Int) := by rw [Nat.zero_add] at hlp'; exact hlp'
                have hjl : j < ps.length := by
                  rcases Nat.lt_or_ge j ps.length with h' | h'
                  · exact h'
                  · rw [List.getElem?_eq_none h'] at hx; cases hx
                have hbit : bitsAt ps (lpF q.p 0 ps) = pq.n := by
                  rw [hlp0]; unfold bitsAt
                  rw [Int.toNat_natCast, List.getD_eq_getElem?_getD, hx]; rfl
                rw [hbit, hlp0] at HPo
                rw [hlp0] at HL
                have hjn : j < np := by rw [HNP.out]; exact hjl
                have wj : IntKind.i64.wrap (j : Int) = (j : Int) := by rw [IntKind.wrap_i64]; omega
                have hj0 : (0 : Int) ≤ (j : Int) := by omega
                have hj1 : (j : Int) < (np : Int) := by omega
                have hj2 : decide ((j : Int) < 0) = false := decide_eq_false (by omega)
                obtain ⟨p2, o2, x2, rfl, hp2, hx2, _, _, _, _, k4⟩ := rowPl HPW.out j hjl
                rw [hx] at hx2
                cases hx2
                have k4' := (HBel.out.cell hp2).trans k4
                have kL : p2 < wr.heap.size := Nat.lt_of_lt_of_le hp2 HBel.out.size
                have HPo2 : Hid (blocksS ps none bs = (((pq.n == q.p.b) && (match prvB bs i with | none => true | some r => decide (cmpP r q.p < 0))) && blocksS ps (some q.p) (bs.drop (i + 1)))) := hidP (by rw [HPo.out, decide_eq_true hj0]; simp)
                clear HPo hlp' hlp0 hbit hx hjl k4
                cases hbt : (pq.n == q.p.b)
                · have g3 : (pq.n != q.p.b) = true := by rw [bne, hbt]; rfl
                  rw [hbt] at HPo2
                  have HF : Hid ((poolsF none ps && blocksS ps none bs) = false) := hidP (by rw [HPo2.out]; simp)
                  clear HPo2 HPr HNx HPT hbt
                  go_wp2_with fail
                  obtain ⟨x0, x1, x2, x3, x4⟩ := boxBk (q := q) wr 67
                  have xB := alloc_below wr (.cells #[.bool q.p.s, .int .i64 q.p.H.toInt, .int .i64 q.p.L.toInt, .int .i64 q.p.b, .string q.t] 67)
                  have xL := alloc_lt wr (.cells #[.bool q.p.s, .int .i64 q.p.H.toInt, .int .i64 q.p.L.toInt, .int .i64 q.p.b, .string q.t] 67)
                  have xS : (wr.alloc (.cells #[.bool q.p.s, .int .i64 q.p.H.toInt, .int .i64 q.p.L.toInt, .int .i64 q.p.b, .string q.t] 67)).heap.size = wr.heap.size + 1 := by simp
                  generalize wr.alloc (.cells #[.bool q.p.s, .int .i64 q.p.H.toInt, .int .i64 q.p.L.toInt, .int .i64 q.p.b, .string q.t] 67) = W2 at *
                  have n0 := (xB.cell sL).trans s0
                  have n1 := (xB.cell sL).trans s1
                  have nL : w.heap.size < W2.heap.size := Nat.lt_of_lt_of_le sL xB.size
                  have m4 := (xB.cell kL).trans k4'
                  have mL : p2 < W2.heap.size := Nat.lt_of_lt_of_le kL xB.size
                  have HXB := hidP xB
                  clear xS xB
                  go_wp2_with fail
                  refine (HL.out W2 (HBel.out.trans (HXB.out.mono HBel.out.size))).mono ?_
                  rintro e w3 ⟨rfl, hb3⟩
                  have x0' := (hb3.cell xL).trans x0
                  have x1' := (hb3.cell xL).trans x1
                  have x2' := (hb3.cell xL).trans x2
                  have x3' := (hb3.cell xL).trans x3
                  have x4' := (hb3.cell xL).trans x4
                  have xL' : wr.heap.size < w3.heap.size := Nat.lt_of_lt_of_le xL hb3.size
                  have n0' := (hb3.cell nL).trans n0
                  have n1' := (hb3.cell nL).trans n1
                  have nL' : w.heap.size < w3.heap.size := Nat.lt_of_lt_of_le nL hb3.size
                  have m4' := (hb3.cell mL).trans m4
                  have mL' : p2 < w3.heap.size := Nat.lt_of_lt_of_le mL hb3.size
                  have HB3 := hidP hb3
                  clear x0 x1 x2 x3 x4 n0 n1 m4 k4' hb3 d0 d1 d2 d3 d4 s0 s1
                  go_wp2_with fail
                  have HSx : Hid (∀ x, Below w3.heap.size w3 x → (x.cell? ⟨wr.heap.size, 0, none⟩ = some (.bool q.p.s) ∧ x.cell? ⟨wr.heap.size, 1, none⟩ = some (.int .i64 q.p.H.toInt) ∧ x.cell? ⟨wr.heap.size, 2, none⟩ = some (.int .i64 q.p.L.toInt) ∧ x.cell? ⟨wr.heap.size, 3, none⟩ = some (.int .i64 q.p.b) ∧ x.cell? ⟨wr.heap.size, 4, none⟩ = some (.string q.t) ∧ x.cell? ⟨w.heap.size, 0, none⟩ = some (.slice (some ⟨p2, o2, none⟩) np cp) ∧ x.cell? ⟨w.heap.size, 1, none⟩ = some (.slice (some ⟨p, o, none⟩) nb cb) ∧ x.cell? ⟨p2, o2 + j * 5 + 4, none⟩ = some (.int .i64 pq.n) ∧ Below w3.heap.size w3 x)) := hidP fun x h =>
                    ⟨(h.cell xL').trans x0', (h.cell xL').trans x1', (h.cell xL').trans x2', (h.cell xL').trans x3', (h.cell xL').trans x4', (h.cell nL').trans n0', (h.cell nL').trans n1', (h.cell mL').trans m4', h⟩
                  refine wp_region_held_drew (S := (fun x => x.cell? ⟨wr.heap.size, 0, none⟩ = some (.bool q.p.s) ∧ x.cell? ⟨wr.heap.size, 1, none⟩ = some (.int .i64 q.p.H.toInt) ∧ x.cell? ⟨wr.heap.size, 2, none⟩ = some (.int .i64 q.p.L.toInt) ∧ x.cell? ⟨wr.heap.size, 3, none⟩ = some (.int .i64 q.p.b) ∧ x.cell? ⟨wr.heap.size, 4, none⟩ = some (.string q.t) ∧ x.cell? ⟨w.heap.size, 0, none⟩ = some (.slice (some ⟨p2, o2, none⟩) np cp) ∧ x.cell? ⟨w.heap.size, 1, none⟩ = some (.slice (some ⟨p, o, none⟩) nb cb) ∧ x.cell? ⟨p2, o2 + j * 5 + 4, none⟩ = some (.int .i64 pq.n) ∧ Below w3.heap.size w3 x)) (by kernel_rfl) ?_ (fun hHeld => ?_)
                  · try dsimp only
                    exact HSx.out _ (Below.refl _ _).drew
                  refine tkA 0 84 (v := ?_) rfl (by kernel_rfl) (fun _ _ _ h => h) (by rfl) ?_ (by assumption) ?_; rotate_left; · (intro w hSw; (try dsimp only at hSw); go_simp; try with_reducible rfl)
                  simp only [pa]
                  refine tkA 1 85 (v := ?_) rfl (by kernel_rfl) (fun _ _ _ h => h) (by rfl) ?_ (by assumption) ?_; rotate_left; · (intro w hSw; (try dsimp only at hSw); go_simp; try with_reducible rfl)
                  simp only [pa]
                  refine wpAnyH_ready (rs := [2]) (by kernel_rfl) (by simp) ?_
                  refine AllReadyH.cons rfl (fun K hK => ?_) AllReadyH.nil
                  go_simp
                  go_wp2_with (first | (go_at_call 39; refine (HQ1.out _).mono ?_; rintro e w5 ⟨rfl, hb5⟩; have b5 := (hHeld.2.2.2.2.2.2.2.2).trans (hb5.mono (hHeld.2.2.2.2.2.2.2.2).size)))
                  refine hK.out _ _ ?_ (fun hHeld => ?_)
                  · try dsimp only
                    exact HSx.out _ b5
                  clear hK K
                  refine tkA 3 87 (v := ?_) rfl (by kernel_rfl) (fun _ _ _ h => h) (by rfl) ?_ (by assumption) ?_; rotate_left; · (intro w hSw; (try dsimp only at hSw); go_simp; try with_reducible rfl)
                  simp only [pa]
                  refine tkA 4 88 (v := ?_) rfl (by kernel_rfl) (fun _ _ _ h => h) (by rfl) ?_ (by assumption) ?_; rotate_left; · (intro w hSw; (try dsimp only at hSw); go_simp; try with_reducible rfl)
                  simp only [pa]
                  refine tkA 5 89 (v := ?_) rfl (by kernel_rfl) (fun _ _ _ h => h) (by rfl) ?_ (by assumption) ?_; rotate_left; · (intro w hSw; (try dsimp only at hSw); go_simp; try with_reducible rfl)
                  simp only [pa]
                  refine tkA 6 90 (v := ?_) rfl (by kernel_rfl) (fun _ _ _ h => h) (by rfl) ?_ (by assumption) ?_; rotate_left; · (intro w hSw; (try dsimp only at hSw); go_simp; try with_reducible rfl)
                  simp only [pa]
                  refine wpAnyH_ready (rs := [7]) (by kernel_rfl) (by simp) ?_
                  refine AllReadyH.cons rfl (fun K hK => ?_) AllReadyH.nil
                  go_simp
                  go_wp2_with (first | (go_at_call 40; refine (HOw.out _).mono ?_; rintro e w' ⟨rfl, rfl⟩))
                  refine hK.out _ _ ?_ (fun hHeld => ?_)
                  · try dsimp only
                    exact HSx.out _ (hHeld.2.2.2.2.2.2.2.2)
                  clear hK K
                  refine tkA 8 92 (v := ?_) rfl (by kernel_rfl) (fun _ _ _ h => h) (by rfl) ?_ (by assumption) ?_; rotate_left; · (intro w hSw; (try dsimp only at hSw); go_simp; try with_reducible rfl)
                  simp only [pa]
                  refine tkA 9 93 (v := ?_) rfl (by kernel_rfl) (fun _ _ _ h => h) (by rfl) ?_ (by assumption) ?_; rotate_left; · (intro w hSw; (try dsimp only at hSw); go_simp; try with_reducible rfl)
                  simp only [pa]
                  refine tkA 10 94 (v := ?_) rfl (by kernel_rfl) (fun _ _ _ h => h) (by rfl) ?_ (by assumption) ?_; rotate_left; · (intro w hSw; (try dsimp only at hSw); go_simp; try with_reducible rfl)
                  simp only [pa]
                  refine tkA 11 95 (v := ?_) rfl (by kernel_rfl) (fun _ _ _ h => h) (by rfl) ?_ (by assumption) ?_; rotate_left; · (intro w hSw; (try dsimp only at hSw); go_simp; try with_reducible rfl)
                  simp only [pa]
                  refine tkA 12 96 (v := ?_) rfl (by kernel_rfl) (fun _ _ _ h => h) (by rfl) ?_ (by assumption) ?_; rotate_left; · (intro w hSw; (try dsimp only at hSw); go_simp; try with_reducible rfl)
                  simp only [pa]
                  refine tkA 13 97 (v := ?_) rfl (by kernel_rfl) (fun _ _ _ h => h) (by rfl) ?_ (by assumption) ?_; rotate_left; · (intro w hSw; (try dsimp only at hSw); go_simp; try with_reducible rfl)
                  simp only [pa]
                  refine tkA 14 98 (v := ?_) rfl (by kernel_rfl) (fun _ _ _ h => h) (by rfl) ?_ (by assumption) ?_; rotate_left; · (intro w hSw; (try dsimp only at hSw); go_simp; try with_reducible rfl)
                  simp only [pa]
                  refine tkA 15 99 (v := ?_) rfl (by kernel_rfl) (fun _ _ _ h => h) (by rfl) ?_ (by assumption) ?_; rotate_left; · (intro w hSw; (try dsimp only at hSw); go_simp; try with_reducible rfl)
                  simp only [pa]
                  refine tkA 16 100 (v := ?_) rfl (by kernel_rfl) (fun _ _ _ h => h) (by rfl) ?_ (by assumption) ?_; rotate_left; · (intro w hSw; (try dsimp only at hSw); go_simp; try with_reducible rfl)
                  simp only [pa]
                  refine tkA 17 101 (v := ?_) rfl (by kernel_rfl) (fun _ _ _ h => h) (by rfl) ?_ (by assumption) ?_; rotate_left; · (intro w hSw; (try dsimp only at hSw); go_simp; try with_reducible rfl)
                  simp only [pa]
                  refine tkA 18 102 (v := ?_) rfl (by kernel_rfl) (fun _ _ _ h => h) (by rfl) ?_ (by assumption) ?_; rotate_left; · (intro w hSw; (try dsimp only at hSw); go_simp; try with_reducible rfl)
                  simp only [pa]
                  refine tkA 19 103 (v := ?_) rfl (by kernel_rfl) (fun _ _ _ h => h) (by rfl) ?_ (by assumption) ?_; rotate_left; · (intro w hSw; (try dsimp only at hSw); go_simp; try with_reducible rfl)
                  simp only [pa]
                  refine tkA 20 104 (v := ?_) rfl (by kernel_rfl) (fun _ _ _ h => h) (by rfl) ?_ (by assumption) ?_; rotate_left; · (intro w hSw; (try dsimp only at hSw); go_simp; try with_reducible rfl)
                  simp only [pa]
                  refine tkA 21 105 (v := ?_) rfl (by kernel_rfl) (fun _ _ _ h => h) (by rfl) ?_ (by assumption) ?_; rotate_left; · (intro w hSw; (try dsimp only at hSw); go_simp; try with_reducible rfl)
                  simp only [pa]
                  refine tkA 22 106 (v := ?_) rfl (by kernel_rfl) (fun _ _ _ h => h) (by rfl) ?_ (by assumption) ?_; rotate_left; · (intro w hSw; (try dsimp only at hSw); go_simp; try with_reducible rfl)
                  simp only [pa]
                  refine tkA 23 107 (v := ?_) rfl (by kernel_rfl) (fun _ _ _ h => h) (by rfl) ?_ (by assumption) ?_; rotate_left; · (intro w hSw; (try dsimp only at hSw); go_simp; try with_reducible rfl)
                  simp only [pa]
                  refine tkA 24 108 (v := ?_) rfl (by kernel_rfl) (fun _ _ _ h => h) (by rfl) ?_ (by assumption) ?_; rotate_left; · (intro w hSw; (try dsimp only at hSw); go_simp; try with_reducible rfl)
                  simp only [pa]
                  refine tkA 25 109 (v := ?_) rfl (by kernel_rfl) (fun _ _ _ h => h) (by rfl) ?_ (by assumption) ?_; rotate_left; · (intro w hSw; (try dsimp only at hSw); go_simp; try with_reducible rfl)
                  simp only [pa]
                  refine tkA 26 110 (v := ?_) rfl (by kernel_rfl) (fun _ _ _ h => h) (by rfl) ?_ (by assumption) ?_; rotate_left; · (intro w hSw; (try dsimp only at hSw); go_simp; try with_reducible rfl)
                  simp only [pa]
                  refine wpAnyH_take (i := 27) (oi := ⟨some 111, _, _, _, _, _⟩) (v := undef) rfl (by kernel_rfl) (by kernel_rfl) (by kernel_rfl) (fun _ _ _ h => h) (Or.inr ⟨by rfl, rfl⟩) (by assumption) ?_
                  simp only [pa]
                  refine wpAnyH_take (i := 28) (oi := ⟨some 112, _, _, _, _, _⟩) (v := undef) rfl (by kernel_rfl) (by kernel_rfl) (by kernel_rfl) (fun _ _ _ h => h) (Or.inr ⟨by rfl, rfl⟩) (by assumption) ?_
                  simp only [pa]
                  refine wpAnyH_take (i := 29) (oi := ⟨some 113, _, _, _, _, _⟩) (v := undef) rfl (by kernel_rfl) (by kernel_rfl) (by kernel_rfl) (fun _ _ _ h => h) (Or.inr ⟨by rfl, rfl⟩) (by assumption) ?_
                  simp only [pa]
                  refine wpAnyH_take (i := 30) (oi := ⟨some 114, _, _, _, _, _⟩) (v := undef) rfl (by kernel_rfl) (by kernel_rfl) (by kernel_rfl) (fun _ _ _ h => h) (Or.inr ⟨by rfl, rfl⟩) (by assumption) ?_
                  simp only [pa]
                  refine wpAnyH_take (i := 31) (oi := ⟨some 115, _, _, _, _, _⟩) (v := undef) rfl (by kernel_rfl) (by kernel_rfl) (by kernel_rfl) (fun _ _ _ h => h) (Or.inr ⟨by rfl, rfl⟩) (by assumption) ?_
                  simp only [pa]
                  refine wpAnyH_take (i := 32) (oi := ⟨some 116, _, _, _, _, _⟩) (v := undef) rfl (by kernel_rfl) (by kernel_rfl) (by kernel_rfl) (fun _ _ _ h => h) (Or.inr ⟨by rfl, rfl⟩) (by assumption) ?_
                  simp only [pa]
                  refine wpAnyH_take (i := 33) (oi := ⟨some 117, _, _, _, _, _⟩) (v := undef) rfl (by kernel_rfl) (by kernel_rfl) (by kernel_rfl) (fun _ _ _ h => h) (Or.inr ⟨by rfl, rfl⟩) (by assumption) ?_
                  simp only [pa]
                  refine wpAnyH_take (i := 34) (oi := ⟨some 118, _, _, _, _, _⟩) (v := undef) rfl (by kernel_rfl) (by kernel_rfl) (by kernel_rfl) (fun _ _ _ h => h) (Or.inr ⟨by rfl, rfl⟩) (by assumption) ?_
                  simp only [pa]
                  refine wpAnyH_take (i := 35) (oi := ⟨some 119, _, _, _, _, _⟩) (v := undef) rfl (by kernel_rfl) (by kernel_rfl) (by kernel_rfl) (fun _ _ _ h => h) (Or.inr ⟨by rfl, rfl⟩) (by assumption) ?_
                  simp only [pa]
                  refine wpAnyH_take (i := 36) (oi := ⟨some 120, _, _, _, _, _⟩) (v := undef) rfl (by kernel_rfl) (by kernel_rfl) (by kernel_rfl) (fun _ _ _ h => h) (Or.inr ⟨by rfl, rfl⟩) (by assumption) ?_
                  simp only [pa]
                  refine wpAnyH_take (i := 37) (oi := ⟨some 121, _, _, _, _, _⟩) (v := undef) rfl (by kernel_rfl) (by kernel_rfl) (by kernel_rfl) (fun _ _ _ h => h) (Or.inr ⟨by rfl, rfl⟩) (by assumption) ?_
                  simp only [pa]
                  refine wpAnyH_take (i := 38) (oi := ⟨some 122, _, _, _, _, _⟩) (v := undef) rfl (by kernel_rfl) (by kernel_rfl) (by kernel_rfl) (fun _ _ _ h => h) (Or.inr ⟨by rfl, rfl⟩) (by assumption) ?_
                  simp only [pa]
                  refine wpAnyH_take (i := 39) (oi := ⟨some 123, _, _, _, _, _⟩) (v := undef) rfl (by kernel_rfl) (by kernel_rfl) (by kernel_rfl) (fun _ _ _ h => h) (Or.inr ⟨by rfl, rfl⟩) (by assumption) ?_
                  simp only [pa]
                  refine wpAnyH_take (i := 40) (oi := ⟨some 124, _, _, _, _, _⟩) (v := undef) rfl (by kernel_rfl) (by kernel_rfl) (by kernel_rfl) (fun _ _ _ h => h) (Or.inr ⟨by rfl, rfl⟩) (by assumption) ?_
                  simp only [pa]
                  refine wpAnyH_take (i := 41) (oi := ⟨some 125, _, _, _, _, _⟩) (v := undef) rfl (by kernel_rfl) (by kernel_rfl) (by kernel_rfl) (fun _ _ _ h => h) (Or.inr ⟨by rfl, rfl⟩) (by assumption) ?_
                  simp only [pa]
                  refine tkA 42 126 (v := ?_) rfl (by kernel_rfl) (fun _ _ _ h => h) (by rfl) ?_ (by assumption) ?_; rotate_left; · (intro w hSw; (try dsimp only at hSw); go_simp; try with_reducible rfl)
                  simp only [pa]
                  have HE := hidP (hHeld.2.2.2.2.2.2.2.2)
                  refine wpAnyH_done (by kernel_rfl) ?_ _
                  clear hHeld
                  go_wp2_with fail
                  go_ret
                  exact ⟨ret_b HF.out.symm, HUB.out.trans ((HBel0.out.trans ((HBel.out.trans ((below_box HXB.out HXB.out.size HB3.out HE.out).mono HBel.out.size)).mono HBel0.out.size)).mono HUB.out.size)⟩
                · have g3 : (pq.n != q.p.b) = false := by rw [bne, hbt]; rfl
                  rw [hbt] at HPo2
                  clear hbt
                  by_cases hk0 : i = 0
                  · have g0 : decide ((0 : Int) < (i : Int)) = false := decide_eq_false (by omega)
                    have g1 : decide (0 < i) = false := decide_eq_false (by omega)
                    have HF : Hid (blocksS ps none bs = blocksS ps (some q.p) (bs.drop (i + 1))) := hidP (by rw [HPo2.out, hk0]; rfl)
                    clear HPo2 HPr hk0
                    go_wp2_with fail
                    obtain ⟨x0, x1, x2, x3, x4⟩ := boxBk (q := q) wr 67
                    have xB := alloc_below wr (.cells #[.bool q.p.s, .int .i64 q.p.H.toInt, .int .i64 q.p.L.toInt, .int .i64 q.p.b, .string q.t] 67)
                    have xL := alloc_lt wr (.cells #[.bool q.p.s, .int .i64 q.p.H.toInt, .int .i64 q.p.L.toInt, .int .i64 q.p.b, .string q.t] 67)
                    have xS : (wr.alloc (.cells #[.bool q.p.s, .int .i64 q.p.H.toInt, .int .i64 q.p.L.toInt, .int .i64 q.p.b, .string q.t] 67)).heap.size = wr.heap.size + 1 := by simp
                    generalize wr.alloc (.cells #[.bool q.p.s, .int .i64 q.p.H.toInt, .int .i64 q.p.L.toInt, .int .i64 q.p.b, .string q.t] 67) = W2 at *
                    have n0 := (xB.cell sL).trans s0
                    have n1 := (xB.cell sL).trans s1
                    have nL : w.heap.size < W2.heap.size := Nat.lt_of_lt_of_le sL xB.size
                    have m4 := (xB.cell kL).trans k4'
                    have mL : p2 < W2.heap.size := Nat.lt_of_lt_of_le kL xB.size
                    have HXB := hidP xB
                    clear xS xB
                    go_wp2_with fail
                    refine (HL.out W2 (HBel.out.trans (HXB.out.mono HBel.out.size))).mono ?_
                    rintro e w3 ⟨rfl, hb3⟩
                    have x0' := (hb3.cell xL).trans x0
                    have x1' := (hb3.cell xL).trans x1
                    have x2' := (hb3.cell xL).trans x2
                    have x3' := (hb3.cell xL).trans x3
                    have x4' := (hb3.cell xL).trans x4
                    have xL' : wr.heap.size < w3.heap.size := Nat.lt_of_lt_of_le xL hb3.size
                    have n0' := (hb3.cell nL).trans n0
                    have n1' := (hb3.cell nL).trans n1
                    have nL' : w.heap.size < w3.heap.size := Nat.lt_of_lt_of_le nL hb3.size
                    have m4' := (hb3.cell mL).trans m4
                    have mL' : p2 < w3.heap.size := Nat.lt_of_lt_of_le mL hb3.size
                    have HB3 := hidP hb3
                    clear x0 x1 x2 x3 x4 n0 n1 m4 k4' hb3 d0 d1 d2 d3 d4 s0 s1
                    go_wp2_with fail
                    have HSx : Hid (∀ x, Below w3.heap.size w3 x → (x.cell? ⟨wr.heap.size, 0, none⟩ = some (.bool q.p.s) ∧ x.cell? ⟨wr.heap.size, 1, none⟩ = some (.int .i64 q.p.H.toInt) ∧ x.cell? ⟨wr.heap.size, 2, none⟩ = some (.int .i64 q.p.L.toInt) ∧ x.cell? ⟨wr.heap.size, 3, none⟩ = some (.int .i64 q.p.b) ∧ x.cell? ⟨wr.heap.size, 4, none⟩ = some (.string q.t) ∧ x.cell? ⟨w.heap.size, 0, none⟩ = some (.slice (some ⟨p2, o2, none⟩) np cp) ∧ x.cell? ⟨w.heap.size, 1, none⟩ = some (.slice (some ⟨p, o, none⟩) nb cb) ∧ x.cell? ⟨p2, o2 + j * 5 + 4, none⟩ = some (.int .i64 pq.n) ∧ Below w3.heap.size w3 x)) := hidP fun x h =>
                      ⟨(h.cell xL').trans x0', (h.cell xL').trans x1', (h.cell xL').trans x2', (h.cell xL').trans x3', (h.cell xL').trans x4', (h.cell nL').trans n0', (h.cell nL').trans n1', (h.cell mL').trans m4', h⟩
                    refine wp_region_held_drew (S := (fun x => x.cell? ⟨wr.heap.size, 0, none⟩ = some (.bool q.p.s) ∧ x.cell? ⟨wr.heap.size, 1, none⟩ = some (.int .i64 q.p.H.toInt) ∧ x.cell? ⟨wr.heap.size, 2, none⟩ = some (.int .i64 q.p.L.toInt) ∧ x.cell? ⟨wr.heap.size, 3, none⟩ = some (.int .i64 q.p.b) ∧ x.cell? ⟨wr.heap.size, 4, none⟩ = some (.string q.t) ∧ x.cell? ⟨w.heap.size, 0, none⟩ = some (.slice (some ⟨p2, o2, none⟩) np cp) ∧ x.cell? ⟨w.heap.size, 1, none⟩ = some (.slice (some ⟨p, o, none⟩) nb cb) ∧ x.cell? ⟨p2, o2 + j * 5 + 4, none⟩ = some (.int .i64 pq.n) ∧ Below w3.heap.size w3 x)) (by kernel_rfl) ?_ (fun hHeld => ?_)
                    · try dsimp only
                      exact HSx.out _ (Below.refl _ _).drew
                    refine tkA 0 84 (v := ?_) rfl (by kernel_rfl) (fun _ _ _ h => h) (by rfl) ?_ (by assumption) ?_; rotate_left; · (intro w hSw; (try dsimp only at hSw); go_simp; try with_reducible rfl)
                    simp only [pa]
                    refine tkA 1 85 (v := ?_) rfl (by kernel_rfl) (fun _ _ _ h => h) (by rfl) ?_ (by assumption) ?_; rotate_left; · (intro w hSw; (try dsimp only at hSw); go_simp; try with_reducible rfl)
                    simp only [pa]
                    refine wpAnyH_ready (rs := [2]) (by kernel_rfl) (by simp) ?_
                    refine AllReadyH.cons rfl (fun K hK => ?_) AllReadyH.nil
                    go_simp
                    go_wp2_with (first | (go_at_call 39; refine (HQ1.out _).mono ?_; rintro e w5 ⟨rfl, hb5⟩; have b5 := (hHeld.2.2.2.2.2.2.2.2).trans (hb5.mono (hHeld.2.2.2.2.2.2.2.2).size)))
                    refine hK.out _ _ ?_ (fun hHeld => ?_)
                    · try dsimp only
                      exact HSx.out _ b5
                    clear hK K
                    refine tkA 3 87 (v := ?_) rfl (by kernel_rfl) (fun _ _ _ h => h) (by rfl) ?_ (by assumption) ?_; rotate_left; · (intro w hSw; (try dsimp only at hSw); go_simp; try with_reducible rfl)
                    simp only [pa]
                    refine tkA 4 88 (v := ?_) rfl (by kernel_rfl) (fun _ _ _ h => h) (by rfl) ?_ (by assumption) ?_; rotate_left; · (intro w hSw; (try dsimp only at hSw); go_simp; try with_reducible rfl)
                    simp only [pa]
                    refine tkA 5 89 (v := ?_) rfl (by kernel_rfl) (fun _ _ _ h => h) (by rfl) ?_ (by assumption) ?_; rotate_left; · (intro w hSw; (try dsimp only at hSw); go_simp; try with_reducible rfl)
                    simp only [pa]
                    refine tkA 6 90 (v := ?_) rfl (by kernel_rfl) (fun _ _ _ h => h) (by rfl) ?_ (by assumption) ?_; rotate_left; · (intro w hSw; (try dsimp only at hSw); go_simp; try with_reducible rfl)
                    simp only [pa]
                    refine wpAnyH_ready (rs := [7]) (by kernel_rfl) (by simp) ?_
                    refine AllReadyH.cons rfl (fun K hK => ?_) AllReadyH.nil
                    go_simp
                    go_wp2_with (first | (go_at_call 40; refine (HOw.out _).mono ?_; rintro e w' ⟨rfl, rfl⟩))
                    refine hK.out _ _ ?_ (fun hHeld => ?_)
                    · try dsimp only
                      exact HSx.out _ (hHeld.2.2.2.2.2.2.2.2)
                    clear hK K
                    refine tkA 8 92 (v := ?_) rfl (by kernel_rfl) (fun _ _ _ h => h) (by rfl) ?_ (by assumption) ?_; rotate_left; · (intro w hSw; (try dsimp only at hSw); go_simp; try with_reducible rfl)
                    simp only [pa]
                    refine tkA 9 93 (v := ?_) rfl (by kernel_rfl) (fun _ _ _ h => h) (by rfl) ?_ (by assumption) ?_; rotate_left; · (intro w hSw; (try dsimp only at hSw); go_simp; try with_reducible rfl)
                    simp only [pa]
                    refine tkA 10 94 (v := ?_) rfl (by kernel_rfl) (fun _ _ _ h => h) (by rfl) ?_ (by assumption) ?_; rotate_left; · (intro w hSw; (try dsimp only at hSw); go_simp; try with_reducible rfl)
                    simp only [pa]
                    refine tkA 11 95 (v := ?_) rfl (by kernel_rfl) (fun _ _ _ h => h) (by rfl) ?_ (by assumption) ?_; rotate_left; · (intro w hSw; (try dsimp only at hSw); go_simp; try with_reducible rfl)
                    simp only [pa]
                    refine tkA 12 96 (v := ?_) rfl (by kernel_rfl) (fun _ _ _ h => h) (by rfl) ?_ (by assumption) ?_; rotate_left; · (intro w hSw; (try dsimp only at hSw); go_simp; try with_reducible rfl)
                    simp only [pa]
                    refine tkA 13 97 (v := ?_) rfl (by kernel_rfl) (fun _ _ _ h => h) (by rfl) ?_ (by assumption) ?_; rotate_left; · (intro w hSw; (try dsimp only at hSw); go_simp; try with_reducible rfl)
                    simp only [pa]
                    refine tkA 14 98 (v := ?_) rfl (by kernel_rfl) (fun _ _ _ h => h) (by rfl) ?_ (by assumption) ?_; rotate_left; · (intro w hSw; (try dsimp only at hSw); go_simp; try with_reducible rfl)
                    simp only [pa]
                    refine tkA 15 99 (v := ?_) rfl (by kernel_rfl) (fun _ _ _ h => h) (by rfl) ?_ (by assumption) ?_; rotate_left; · (intro w hSw; (try dsimp only at hSw); go_simp; try with_reducible rfl)
                    simp only [pa]
                    refine tkA 16 100 (v := ?_) rfl (by kernel_rfl) (fun _ _ _ h => h) (by rfl) ?_ (by assumption) ?_; rotate_left; · (intro w hSw; (try dsimp only at hSw); go_simp; try with_reducible rfl)
                    simp only [pa]
                    refine tkA 17 101 (v := ?_) rfl (by kernel_rfl) (fun _ _ _ h => h) (by rfl) ?_ (by assumption) ?_; rotate_left; · (intro w hSw; (try dsimp only at hSw); go_simp; try with_reducible rfl)
                    simp only [pa]
                    refine tkA 18 102 (v := ?_) rfl (by kernel_rfl) (fun _ _ _ h => h) (by rfl) ?_ (by assumption) ?_; rotate_left; · (intro w hSw; (try dsimp only at hSw); go_simp; try with_reducible rfl)
                    simp only [pa]
                    refine tkA 19 103 (v := ?_) rfl (by kernel_rfl) (fun _ _ _ h => h) (by rfl) ?_ (by assumption) ?_; rotate_left; · (intro w hSw; (try dsimp only at hSw); go_simp; try with_reducible rfl)
                    simp only [pa]
                    refine tkA 20 104 (v := ?_) rfl (by kernel_rfl) (fun _ _ _ h => h) (by rfl) ?_ (by assumption) ?_; rotate_left; · (intro w hSw; (try dsimp only at hSw); go_simp; try with_reducible rfl)
                    simp only [pa]
                    refine tkA 21 105 (v := ?_) rfl (by kernel_rfl) (fun _ _ _ h => h) (by rfl) ?_ (by assumption) ?_; rotate_left; · (intro w hSw; (try dsimp only at hSw); go_simp; try with_reducible rfl)
                    simp only [pa]
                    refine tkA 22 106 (v := ?_) rfl (by kernel_rfl) (fun _ _ _ h => h) (by rfl) ?_ (by assumption) ?_; rotate_left; · (intro w hSw; (try dsimp only at hSw); go_simp; try with_reducible rfl)
                    simp only [pa]
                    refine tkA 23 107 (v := ?_) rfl (by kernel_rfl) (fun _ _ _ h => h) (by rfl) ?_ (by assumption) ?_; rotate_left; · (intro w hSw; (try dsimp only at hSw); go_simp; try with_reducible rfl)
                    simp only [pa]
                    refine tkA 24 108 (v := ?_) rfl (by kernel_rfl) (fun _ _ _ h => h) (by rfl) ?_ (by assumption) ?_; rotate_left; · (intro w hSw; (try dsimp only at hSw); go_simp; try with_reducible rfl)
                    simp only [pa]
                    refine tkA 25 109 (v := ?_) rfl (by kernel_rfl) (fun _ _ _ h => h) (by rfl) ?_ (by assumption) ?_; rotate_left; · (intro w hSw; (try dsimp only at hSw); go_simp; try with_reducible rfl)
                    simp only [pa]
                    refine tkA 26 110 (v := ?_) rfl (by kernel_rfl) (fun _ _ _ h => h) (by rfl) ?_ (by assumption) ?_; rotate_left; · (intro w hSw; (try dsimp only at hSw); go_simp; try with_reducible rfl)
                    simp only [pa]
                    refine tkA 27 111 (v := ?_) rfl (by kernel_rfl) (fun _ _ _ h => h) (by rfl) ?_ (by assumption) ?_; rotate_left; · (intro w hSw; (try dsimp only at hSw); go_simp; try with_reducible rfl)
                    simp only [pa]
                    refine tkA 28 112 (v := ?_) rfl (by kernel_rfl) (fun _ _ _ h => h) (by rfl) ?_ (by assumption) ?_; rotate_left; · (intro w hSw; (try dsimp only at hSw); go_simp; try with_reducible rfl)
                    simp only [pa]
                    refine tkA 29 113 (v := ?_) rfl (by kernel_rfl) (fun _ _ _ h => h) (by rfl) ?_ (by assumption) ?_; rotate_left; · (intro w hSw; (try dsimp only at hSw); go_simp; try with_reducible rfl)
                    simp only [pa]
                    refine wpAnyH_take (i := 30) (oi := ⟨some 114, _, _, _, _, _⟩) (v := undef) rfl (by kernel_rfl) (by kernel_rfl) (by kernel_rfl) (fun _ _ _ h => h) (Or.inr ⟨by rfl, rfl⟩) (by assumption) ?_
                    simp only [pa]
                    refine wpAnyH_take (i := 31) (oi := ⟨some 115, _, _, _, _, _⟩) (v := undef) rfl (by kernel_rfl) (by kernel_rfl) (by kernel_rfl) (fun _ _ _ h => h) (Or.inr ⟨by rfl, rfl⟩) (by assumption) ?_
                    simp only [pa]
                    refine wpAnyH_take (i := 32) (oi := ⟨some 116, _, _, _, _, _⟩) (v := undef) rfl (by kernel_rfl) (by kernel_rfl) (by kernel_rfl) (fun _ _ _ h => h) (Or.inr ⟨by rfl, rfl⟩) (by assumption) ?_
                    simp only [pa]
                    refine wpAnyH_take (i := 33) (oi := ⟨some 117, _, _, _, _, _⟩) (v := undef) rfl (by kernel_rfl) (by kernel_rfl) (by kernel_rfl) (fun _ _ _ h => h) (Or.inr ⟨by rfl, rfl⟩) (by assumption) ?_
                    simp only [pa]
                    refine wpAnyH_take (i := 34) (oi := ⟨some 118, _, _, _, _, _⟩) (v := undef) rfl (by kernel_rfl) (by kernel_rfl) (by kernel_rfl) (fun _ _ _ h => h) (Or.inr ⟨by rfl, rfl⟩) (by assumption) ?_
                    simp only [pa]
                    refine wpAnyH_take (i := 35) (oi := ⟨some 119, _, _, _, _, _⟩) (v := undef) rfl (by kernel_rfl) (by kernel_rfl) (by kernel_rfl) (fun _ _ _ h => h) (Or.inr ⟨by rfl, rfl⟩) (by assumption) ?_
                    simp only [pa]
                    refine wpAnyH_take (i := 36) (oi := ⟨some 120, _, _, _, _, _⟩) (v := undef) rfl (by kernel_rfl) (by kernel_rfl) (by kernel_rfl) (fun _ _ _ h => h) (Or.inr ⟨by rfl, rfl⟩) (by assumption) ?_
                    simp only [pa]
                    refine wpAnyH_take (i := 37) (oi := ⟨some 121, _, _, _, _, _⟩) (v := undef) rfl (by kernel_rfl) (by kernel_rfl) (by kernel_rfl) (fun _ _ _ h => h) (Or.inr ⟨by rfl, rfl⟩) (by assumption) ?_
                    simp only [pa]
                    refine wpAnyH_take (i := 38) (oi := ⟨some 122, _, _, _, _, _⟩) (v := undef) rfl (by kernel_rfl) (by kernel_rfl) (by kernel_rfl) (fun _ _ _ h => h) (Or.inr ⟨by rfl, rfl⟩) (by assumption) ?_
                    simp only [pa]
                    refine wpAnyH_take (i := 39) (oi := ⟨some 123, _, _, _, _, _⟩) (v := undef) rfl (by kernel_rfl) (by kernel_rfl) (by kernel_rfl) (fun _ _ _ h => h) (Or.inr ⟨by rfl, rfl⟩) (by assumption) ?_
                    simp only [pa]
                    refine wpAnyH_take (i := 40) (oi := ⟨some 124, _, _, _, _, _⟩) (v := undef) rfl (by kernel_rfl) (by kernel_rfl) (by kernel_rfl) (fun _ _ _ h => h) (Or.inr ⟨by rfl, rfl⟩) (by assumption) ?_
                    simp only [pa]
                    refine tkA 41 125 (v := ?_) rfl (by kernel_rfl) (fun _ _ _ h => h) (by rfl) ?_ (by assumption) ?_; rotate_left; · (intro w hSw; (try dsimp only at hSw); go_simp; try with_reducible rfl)
                    simp only [pa]
                    refine tkA 42 126 (v := ?_) rfl (by kernel_rfl) (fun _ _ _ h => h) (by rfl) ?_ (by assumption) ?_; rotate_left; · (intro w hSw; (try dsimp only at hSw); go_simp; try with_reducible rfl)
                    simp only [pa]
                    have HE := hidP (hHeld.2.2.2.2.2.2.2.2)
                    refine wpAnyH_done (by kernel_rfl) ?_ _
                    clear hHeld
                    go_wp2_with fail
                    go_roundw
                    case rel => exact ⟨i + 1, by omega, by go_num, by rw [HF.out, HNx.out], (fun r h => by rw [HNx.out] at h; cases h; exact HPk.out), HBel.out.trans ((below_box HXB.out HXB.out.size HB3.out HE.out).mono HBel.out.size)⟩
                    case measure => simp [intOf]; omega
                  · have g0 : decide ((0 : Int) < (i : Int)) = true := decide_eq_true (by omega)
                    have g1 : decide (0 < i) = true := decide_eq_true (by omega)
                    obtain ⟨J, hJ⟩ : ∃ J, J = i - 1 := ⟨_, rfl⟩
                    have hkJ : i = J + 1 := by omega
                    have hJi : (i : Int) - 1 = (J : Int) := by omega
                    have hJn : J < nb := by omega
                    have wJ : IntKind.i64.wrap (J : Int) = (J : Int) := by rw [IntKind.wrap_i64]; omega
                    have hJ0 : (0 : Int) ≤ (J : Int) := by omega
                    have hJ1 : (J : Int) < (nb : Int) := by omega
                    obtain ⟨p', o', r, he, hp', hr, c0, c1, c2, c3, c4⟩ := rowBk HBW.out J (by rw [← HNB.out]; exact hJn)
                    simp only [Option.some.injEq, Addr.mk.injEq, and_true] at he
                    obtain ⟨rfl, rfl⟩ := he
                    have hprv : prvB bs i = some r.p := by rw [hkJ]; exact prvB_next hr
                    have hrpk : r.p.pk = true := HPr.out _ hprv
                    have HPo3 : Hid (blocksS ps none bs = (decide (cmpP r.p q.p < 0) && blocksS ps (some q.p) (bs.drop (i + 1)))) := hidP (by rw [HPo2.out, hprv]; simp)
                    have HC := hidP (sCmpP r.p q.p hrpk HPk.out)
                    have e0 := (HBel.out.cell hp').trans c0
                    have e1 := (HBel.out.cell hp').trans c1
                    have e2 := (HBel.out.cell hp').trans c2
                    have e3 := (HBel.out.cell hp').trans c3
                    clear c0 c1 c2 c3 c4 hr hprv hrpk hJ hkJ hk0 HPo2 HPr
                    cases hcm : decide (cmpP r.p q.p < 0)
                    · have g2 := ge_not hcm
                      rw [hcm] at HPo3
                      have HF : Hid ((poolsF none ps && blocksS ps none bs) = false) := hidP (by rw [HPo3.out]; simp)
                      clear HPo3 hcm HPT
                      generalize cmpP r.p q.p = cm at *
                      go_wp2_with fail
                      obtain ⟨x0, x1, x2, x3, x4⟩ := boxBk (q := q) wr 67
                      have xB := alloc_below wr (.cells #[.bool q.p.s, .int .i64 q.p.H.toInt, .int .i64 q.p.L.toInt, .int .i64 q.p.b, .string q.t] 67)
                      have xL := alloc_lt wr (.cells #[.bool q.p.s, .int .i64 q.p.H.toInt, .int .i64 q.p.L.toInt, .int .i64 q.p.b, .string q.t] 67)
                      have xS : (wr.alloc (.cells #[.bool q.p.s, .int .i64 q.p.H.toInt, .int .i64 q.p.L.toInt, .int .i64 q.p.b, .string q.t] 67)).heap.size = wr.heap.size + 1 := by simp
                      generalize wr.alloc (.cells #[.bool q.p.s, .int .i64 q.p.H.toInt, .int .i64 q.p.L.toInt, .int .i64 q.p.b, .string q.t] 67) = W2 at *
                      have n0 := (xB.cell sL).trans s0
                      have n1 := (xB.cell sL).trans s1
                      have nL : w.heap.size < W2.heap.size := Nat.lt_of_lt_of_le sL xB.size
                      have m4 := (xB.cell kL).trans k4'
                      have mL : p2 < W2.heap.size := Nat.lt_of_lt_of_le kL xB.size
                      have y0 := (xB.cell dL).trans e0
                      have y1 := (xB.cell dL).trans e1
                      have y2 := (xB.cell dL).trans e2
                      have y3 := (xB.cell dL).trans e3
                      have yL : p < W2.heap.size := Nat.lt_of_lt_of_le dL xB.size
                      have HXB := hidP xB
                      clear xS xB
                      go_wp2_with fail
                      refine (HL.out W2 (HBel.out.trans (HXB.out.mono HBel.out.size))).mono ?_
                      rintro e w3 ⟨rfl, hb3⟩
                      have x0' := (hb3.cell xL).trans x0
                      have x1' := (hb3.cell xL).trans x1
                      have x2' := (hb3.cell xL).trans x2
                      have x3' := (hb3.cell xL).trans x3
                      have x4' := (hb3.cell xL).trans x4
                      have xL' : wr.heap.size < w3.heap.size := Nat.lt_of_lt_of_le xL hb3.size
                      have n0' := (hb3.cell nL).trans n0
                      have n1' := (hb3.cell nL).trans n1
                      have nL' : w.heap.size < w3.heap.size := Nat.lt_of_lt_of_le nL hb3.size
                      have m4' := (hb3.cell mL).trans m4
                      have mL' : p2 < w3.heap.size := Nat.lt_of_lt_of_le mL hb3.size
                      have y0' := (hb3.cell yL).trans y0
                      have y1' := (hb3.cell yL).trans y1
                      have y2' := (hb3.cell yL).trans y2
                      have y3' := (hb3.cell yL).trans y3
                      have yL' : p < w3.heap.size := Nat.lt_of_lt_of_le yL hb3.size
                      have HB3 := hidP hb3
                      clear x0 x1 x2 x3 x4 n0 n1 m4 k4' y0 y1 y2 y3 e0 e1 e2 e3 hb3 d0 d1 d2 d3 d4 s0 s1
                      go_wp2_with fail
                      have HSx : Hid (∀ x, Below w3.heap.size w3 x → (x.cell? ⟨wr.heap.size, 0, none⟩ = some (.bool q.p.s) ∧ x.cell? ⟨wr.heap.size, 1, none⟩ = some (.int .i64 q.p.H.toInt) ∧ x.cell? ⟨wr.heap.size, 2, none⟩ = some (.int .i64 q.p.L.toInt) ∧ x.cell? ⟨wr.heap.size, 3, none⟩ = some (.int .i64 q.p.b) ∧ x.cell? ⟨wr.heap.size, 4, none⟩ = some (.string q.t) ∧ x.cell? ⟨w.heap.size, 0, none⟩ = some (.slice (some ⟨p2, o2, none⟩) np cp) ∧ x.cell? ⟨w.heap.size, 1, none⟩ = some (.slice (some ⟨p, o, none⟩) nb cb) ∧ x.cell? ⟨p2, o2 + j * 5 + 4, none⟩ = some (.int .i64 pq.n) ∧ x.cell? ⟨p, o + J * 5, none⟩ = some (.bool r.p.s) ∧ x.cell? ⟨p, o + J * 5 + 1, none⟩ = some (.int .i64 r.p.H.toInt) ∧ x.cell? ⟨p, o + J * 5 + 2, none⟩ = some (.int .i64 r.p.L.toInt) ∧ x.cell? ⟨p, o + J * 5 + 3, none⟩ = some (.int .i64 r.p.b) ∧ Below w3.heap.size w3 x)) := hidP fun x h =>
                        ⟨(h.cell xL').trans x0', (h.cell xL').trans x1', (h.cell xL').trans x2', (h.cell xL').trans x3', (h.cell xL').trans x4', (h.cell nL').trans n0', (h.cell nL').trans n1', (h.cell mL').trans m4', (h.cell yL').trans y0', (h.cell yL').trans y1', (h.cell yL').trans y2', (h.cell yL').trans y3', h⟩
                      refine wp_region_held_drew (S := (fun x => x.cell? ⟨wr.heap.size, 0, none⟩ = some (.bool q.p.s) ∧ x.cell? ⟨wr.heap.size, 1, none⟩ = some (.int .i64 q.p.H.toInt) ∧ x.cell? ⟨wr.heap.size, 2, none⟩ = some (.int .i64 q.p.L.toInt) ∧ x.cell? ⟨wr.heap.size, 3, none⟩ = some (.int .i64 q.p.b) ∧ x.cell? ⟨wr.heap.size, 4, none⟩ = some (.string q.t) ∧ x.cell? ⟨w.heap.size, 0, none⟩ = some (.slice (some ⟨p2, o2, none⟩) np cp) ∧ x.cell? ⟨w.heap.size, 1, none⟩ = some (.slice (some ⟨p, o, none⟩) nb cb) ∧ x.cell? ⟨p2, o2 + j * 5 + 4, none⟩ = some (.int .i64 pq.n) ∧ x.cell? ⟨p, o + J * 5, none⟩ = some (.bool r.p.s) ∧ x.cell? ⟨p, o + J * 5 + 1, none⟩ = some (.int .i64 r.p.H.toInt) ∧ x.cell? ⟨p, o + J * 5 + 2, none⟩ = some (.int .i64 r.p.L.toInt) ∧ x.cell? ⟨p, o + J * 5 + 3, none⟩ = some (.int .i64 r.p.b) ∧ Below w3.heap.size w3 x)) (by kernel_rfl) ?_ (fun hHeld => ?_)
                      · try dsimp only
                        exact HSx.out _ (Below.refl _ _).drew
                      refine tkA 0 84 (v := ?_) rfl (by kernel_rfl) (fun _ _ _ h => h) (by rfl) ?_ (by assumption) ?_; rotate_left; · (intro w hSw; (try dsimp only at hSw); go_simp; try with_reducible rfl)
                      simp only [pa]
                      refine tkA 1 85 (v := ?_) rfl (by kernel_rfl) (fun _ _ _ h => h) (by rfl) ?_ (by assumption) ?_; rotate_left; · (intro w hSw; (try dsimp only at hSw); go_simp; try with_reducible rfl)
                      simp only [pa]
                      refine wpAnyH_ready (rs := [2]) (by kernel_rfl) (by simp) ?_
                      refine AllReadyH.cons rfl (fun K hK => ?_) AllReadyH.nil
                      go_simp
                      go_wp2_with (first | (go_at_call 39; refine (HQ1.out _).mono ?_; rintro e w5 ⟨rfl, hb5⟩; have b5 := (hHeld.2.2.2.2.2.2.2.2.2.2.2.2).trans (hb5.mono (hHeld.2.2.2.2.2.2.2.2.2.2.2.2).size)))
                      refine hK.out _ _ ?_ (fun hHeld => ?_)
                      · try dsimp only
                        exact HSx.out _ b5
                      clear hK K
                      refine tkA 3 87 (v := ?_) rfl (by kernel_rfl) (fun _ _ _ h => h) (by rfl) ?_ (by assumption) ?_; rotate_left; · (intro w hSw; (try dsimp only at hSw); go_simp; try with_reducible rfl)
                      simp only [pa]
                      refine tkA 4 88 (v := ?_) rfl (by kernel_rfl) (fun _ _ _ h => h) (by rfl) ?_ (by assumption) ?_; rotate_left; · (intro w hSw; (try dsimp only at hSw); go_simp; try with_reducible rfl)
                      simp only [pa]
                      refine tkA 5 89 (v := ?_) rfl (by kernel_rfl) (fun _ _ _ h => h) (by rfl) ?_ (by assumption) ?_; rotate_left; · (intro w hSw; (try dsimp only at hSw); go_simp; try with_reducible rfl)
                      simp only [pa]
                      refine tkA 6 90 (v := ?_) rfl (by kernel_rfl) (fun _ _ _ h => h) (by rfl) ?_ (by assumption) ?_; rotate_left; · (intro w hSw; (try dsimp only at hSw); go_simp; try with_reducible rfl)
                      simp only [pa]
                      refine wpAnyH_ready (rs := [7]) (by kernel_rfl) (by simp) ?_
                      refine AllReadyH.cons rfl (fun K hK => ?_) AllReadyH.nil
                      go_simp
                      go_wp2_with (first | (go_at_call 40; refine (HOw.out _).mono ?_; rintro e w' ⟨rfl, rfl⟩))
                      refine hK.out _ _ ?_ (fun hHeld => ?_)
                      · try dsimp only
                        exact HSx.out _ (hHeld.2.2.2.2.2.2.2.2.2.2.2.2)
                      clear hK K
                      refine tkA 8 92 (v := ?_) rfl (by kernel_rfl) (fun _ _ _ h => h) (by rfl) ?_ (by assumption) ?_; rotate_left; · (intro w hSw; (try dsimp only at hSw); go_simp; try with_reducible rfl)
                      simp only [pa]
                      refine tkA 9 93 (v := ?_) rfl (by kernel_rfl) (fun _ _ _ h => h) (by rfl) ?_ (by assumption) ?_; rotate_left; · (intro w hSw; (try dsimp only at hSw); go_simp; try with_reducible rfl)
                      simp only [pa]
                      refine tkA 10 94 (v := ?_) rfl (by kernel_rfl) (fun _ _ _ h => h) (by rfl) ?_ (by assumption) ?_; rotate_left; · (intro w hSw; (try dsimp only at hSw); go_simp; try with_reducible rfl)
                      simp only [pa]
                      refine tkA 11 95 (v := ?_) rfl (by kernel_rfl) (fun _ _ _ h => h) (by rfl) ?_ (by assumption) ?_; rotate_left; · (intro w hSw; (try dsimp only at hSw); go_simp; try with_reducible rfl)
                      simp only [pa]
                      refine tkA 12 96 (v := ?_) rfl (by kernel_rfl) (fun _ _ _ h => h) (by rfl) ?_ (by assumption) ?_; rotate_left; · (intro w hSw; (try dsimp only at hSw); go_simp; try with_reducible rfl)
                      simp only [pa]
                      refine tkA 13 97 (v := ?_) rfl (by kernel_rfl) (fun _ _ _ h => h) (by rfl) ?_ (by assumption) ?_; rotate_left; · (intro w hSw; (try dsimp only at hSw); go_simp; try with_reducible rfl)
                      simp only [pa]
                      refine tkA 14 98 (v := ?_) rfl (by kernel_rfl) (fun _ _ _ h => h) (by rfl) ?_ (by assumption) ?_; rotate_left; · (intro w hSw; (try dsimp only at hSw); go_simp; try with_reducible rfl)
                      simp only [pa]
                      refine tkA 15 99 (v := ?_) rfl (by kernel_rfl) (fun _ _ _ h => h) (by rfl) ?_ (by assumption) ?_; rotate_left; · (intro w hSw; (try dsimp only at hSw); go_simp; try with_reducible rfl)
                      simp only [pa]
                      refine tkA 16 100 (v := ?_) rfl (by kernel_rfl) (fun _ _ _ h => h) (by rfl) ?_ (by assumption) ?_; rotate_left; · (intro w hSw; (try dsimp only at hSw); go_simp; try with_reducible rfl)
                      simp only [pa]
                      refine tkA 17 101 (v := ?_) rfl (by kernel_rfl) (fun _ _ _ h => h) (by rfl) ?_ (by assumption) ?_; rotate_left; · (intro w hSw; (try dsimp only at hSw); go_simp; try with_reducible rfl)
                      simp only [pa]
                      refine tkA 18 102 (v := ?_) rfl (by kernel_rfl) (fun _ _ _ h => h) (by rfl) ?_ (by assumption) ?_; rotate_left; · (intro w hSw; (try dsimp only at hSw); go_simp; try with_reducible rfl)
                      simp only [pa]
                      refine tkA 19 103 (v := ?_) rfl (by kernel_rfl) (fun _ _ _ h => h) (by rfl) ?_ (by assumption) ?_; rotate_left; · (intro w hSw; (try dsimp only at hSw); go_simp; try with_reducible rfl)
                      simp only [pa]
                      refine tkA 20 104 (v := ?_) rfl (by kernel_rfl) (fun _ _ _ h => h) (by rfl) ?_ (by assumption) ?_; rotate_left; · (intro w hSw; (try dsimp only at hSw); go_simp; try with_reducible rfl)
                      simp only [pa]
                      refine tkA 21 105 (v := ?_) rfl (by kernel_rfl) (fun _ _ _ h => h) (by rfl) ?_ (by assumption) ?_; rotate_left; · (intro w hSw; (try dsimp only at hSw); go_simp; try with_reducible rfl)
                      simp only [pa]
                      refine tkA 22 106 (v := ?_) rfl (by kernel_rfl) (fun _ _ _ h => h) (by rfl) ?_ (by assumption) ?_; rotate_left; · (intro w hSw; (try dsimp only at hSw); go_simp; try with_reducible rfl)
                      simp only [pa]
                      refine tkA 23 107 (v := ?_) rfl (by kernel_rfl) (fun _ _ _ h => h) (by rfl) ?_ (by assumption) ?_; rotate_left; · (intro w hSw; (try dsimp only at hSw); go_simp; try with_reducible rfl)
                      simp only [pa]
                      refine tkA 24 108 (v := ?_) rfl (by kernel_rfl) (fun _ _ _ h => h) (by rfl) ?_ (by assumption) ?_; rotate_left; · (intro w hSw; (try dsimp only at hSw); go_simp; try with_reducible rfl)
                      simp only [pa]
                      refine tkA 25 109 (v := ?_) rfl (by kernel_rfl) (fun _ _ _ h => h) (by rfl) ?_ (by assumption) ?_; rotate_left; · (intro w hSw; (try dsimp only at hSw); go_simp; try with_reducible rfl)
                      simp only [pa]
                      refine tkA 26 110 (v := ?_) rfl (by kernel_rfl) (fun _ _ _ h => h) (by rfl) ?_ (by assumption) ?_; rotate_left; · (intro w hSw; (try dsimp only at hSw); go_simp; try with_reducible rfl)
                      simp only [pa]
                      refine tkA 27 111 (v := ?_) rfl (by kernel_rfl) (fun _ _ _ h => h) (by rfl) ?_ (by assumption) ?_; rotate_left; · (intro w hSw; (try dsimp only at hSw); go_simp; try with_reducible rfl)
                      simp only [pa]
                      refine tkA 28 112 (v := ?_) rfl (by kernel_rfl) (fun _ _ _ h => h) (by rfl) ?_ (by assumption) ?_; rotate_left; · (intro w hSw; (try dsimp only at hSw); go_simp; try with_reducible rfl)
                      simp only [pa]
                      refine tkA 29 113 (v := ?_) rfl (by kernel_rfl) (fun _ _ _ h => h) (by rfl) ?_ (by assumption) ?_; rotate_left; · (intro w hSw; (try dsimp only at hSw); go_simp; try with_reducible rfl)
                      simp only [pa]
                      refine tkA 30 114 (v := ?_) rfl (by kernel_rfl) (fun _ _ _ h => h) (by rfl) ?_ (by assumption) ?_; rotate_left; · (intro w hSw; (try dsimp only at hSw); go_simp; try with_reducible rfl)
                      simp only [pa]
                      refine tkA 31 115 (v := ?_) rfl (by kernel_rfl) (fun _ _ _ h => h) (by rfl) ?_ (by assumption) ?_; rotate_left; · (intro w hSw; (try dsimp only at hSw); go_simp; try with_reducible rfl)
                      simp only [pa]
                      refine tkA 32 116 (v := ?_) rfl (by kernel_rfl) (fun _ _ _ h => h) (by rfl) ?_ (by assumption) ?_; rotate_left; · (intro w hSw; (try dsimp only at hSw); go_simp; try with_reducible rfl)
                      simp only [pa]
                      refine tkA 33 117 (v := ?_) rfl (by kernel_rfl) (fun _ _ _ h => h) (by rfl) ?_ (by assumption) ?_; rotate_left; · (intro w hSw; (try dsimp only at hSw); go_simp; try with_reducible rfl)
                      simp only [pa]
                      refine tkA 34 118 (v := ?_) rfl (by kernel_rfl) (fun _ _ _ h => h) (by rfl) ?_ (by assumption) ?_; rotate_left; · (intro w hSw; (try dsimp only at hSw); go_simp; try with_reducible rfl)
                      simp only [pa]
                      refine tkA 35 119 (v := ?_) rfl (by kernel_rfl) (fun _ _ _ h => h) (by rfl) ?_ (by assumption) ?_; rotate_left; · (intro w hSw; (try dsimp only at hSw); go_simp; try with_reducible rfl)
                      simp only [pa]
                      refine tkA 36 120 (v := ?_) rfl (by kernel_rfl) (fun _ _ _ h => h) (by rfl) ?_ (by assumption) ?_; rotate_left; · (intro w hSw; (try dsimp only at hSw); go_simp; try with_reducible rfl)
                      simp only [pa]
                      refine tkA 37 121 (v := ?_) rfl (by kernel_rfl) (fun _ _ _ h => h) (by rfl) ?_ (by assumption) ?_; rotate_left; · (intro w hSw; (try dsimp only at hSw); go_simp; try with_reducible rfl)
                      simp only [pa]
                      refine tkA 38 122 (v := ?_) rfl (by kernel_rfl) (fun _ _ _ h => h) (by rfl) ?_ (by assumption) ?_; rotate_left; · (intro w hSw; (try dsimp only at hSw); go_simp; try with_reducible rfl)
                      simp only [pa]
                      refine wpAnyH_ready (rs := [39]) (by kernel_rfl) (by simp) ?_
                      refine AllReadyH.cons rfl (fun K hK => ?_) AllReadyH.nil
                      go_simp
                      go_wp2_with (first | (go_at_call 36; refine (HC.out _).mono ?_; rintro e w6 ⟨rfl, hb6⟩; have b6 := (hHeld.2.2.2.2.2.2.2.2.2.2.2.2).trans (hb6.mono (hHeld.2.2.2.2.2.2.2.2.2.2.2.2).size)))
                      refine hK.out _ _ ?_ (fun hHeld => ?_)
                      · try dsimp only
                        exact HSx.out _ b6
                      clear hK K
                      refine tkA 40 124 (v := ?_) rfl (by kernel_rfl) (fun _ _ _ h => h) (by rfl) ?_ (by assumption) ?_; rotate_left; · (intro w hSw; (try dsimp only at hSw); go_simp; try with_reducible rfl)
                      simp only [pa]
                      refine tkA 41 125 (v := ?_) rfl (by kernel_rfl) (fun _ _ _ h => h) (by rfl) ?_ (by assumption) ?_; rotate_left; · (intro w hSw; (try dsimp only at hSw); go_simp; try with_reducible rfl)
                      simp only [pa]
                      refine tkA 42 126 (v := ?_) rfl (by kernel_rfl) (fun _ _ _ h => h) (by rfl) ?_ (by assumption) ?_; rotate_left; · (intro w hSw; (try dsimp only at hSw); go_simp; try with_reducible rfl)
                      simp only [pa]
                      have HE := hidP (hHeld.2.2.2.2.2.2.2.2.2.2.2.2)
                      refine wpAnyH_done (by kernel_rfl) ?_ _
                      clear hHeld
                      go_wp2_with fail
                      go_ret
                      exact ⟨ret_b HF.out.symm, HUB.out.trans ((HBel0.out.trans ((HBel.out.trans ((below_box HXB.out HXB.out.size HB3.out HE.out).mono HBel.out.size)).mono HBel0.out.size)).mono HUB.out.size)⟩
                    · have g2 := ge_not hcm
                      rw [hcm] at HPo3
                      have HF : Hid (blocksS ps none bs = blocksS ps (some q.p) (bs.drop (i + 1))) := hidP (by rw [HPo3.out]; rfl)
                      clear HPo3 hcm
                      generalize cmpP r.p q.p = cm at *
                      go_wp2_with fail
                      obtain ⟨x0, x1, x2, x3, x4⟩ := boxBk (q := q) wr 67
                      have xB := alloc_below wr (.cells #[.bool q.p.s, .int .i64 q.p.H.toInt, .int .i64 q.p.L.toInt, .int .i64 q.p.b, .string q.t] 67)
                      have xL := alloc_lt wr (.cells #[.bool q.p.s, .int .i64 q.p.H.toInt, .int .i64 q.p.L.toInt, .int .i64 q.p.b, .string q.t] 67)
                      have xS : (wr.alloc (.cells #[.bool q.p.s, .int .i64 q.p.H.toInt, .int .i64 q.p.L.toInt, .int .i64 q.p.b, .string q.t] 67)).heap.size = wr.heap.size + 1 := by simp
                      generalize wr.alloc (.cells #[.bool q.p.s, .int .i64 q.p.H.toInt, .int .i64 q.p.L.toInt, .int .i64 q.p.b, .string q.t] 67) = W2 at *
                      have n0 := (xB.cell sL).trans s0
                      have n1 := (xB.cell sL).trans s1
                      have nL : w.heap.size < W2.heap.size := Nat.lt_of_lt_of_le sL xB.size
                      have m4 := (xB.cell kL).trans k4'
                      have mL : p2 < W2.heap.size := Nat.lt_of_lt_of_le kL xB.size
                      have y0 := (xB.cell dL).trans e0
                      have y1 := (xB.cell dL).trans e1
                      have y2 := (xB.cell dL).trans e2
                      have y3 := (xB.cell dL).trans e3
                      have yL : p < W2.heap.size := Nat.lt_of_lt_of_le dL xB.size
                      have HXB := hidP xB
                      clear xS xB
                      go_wp2_with fail
                      refine (HL.out W2 (HBel.out.trans (HXB.out.mono HBel.out.size))).mono ?_
                      rintro e w3 ⟨rfl, hb3⟩
                      have x0' := (hb3.cell xL).trans x0
                      have x1' := (hb3.cell xL).trans x1
                      have x2' := (hb3.cell xL).trans x2
                      have x3' := (hb3.cell xL).trans x3
                      have x4' := (hb3.cell xL).trans x4
                      have xL' : wr.heap.size < w3.heap.size := Nat.lt_of_lt_of_le xL hb3.size
                      have n0' := (hb3.cell nL).trans n0
                      have n1' := (hb3.cell nL).trans n1
                      have nL' : w.heap.size < w3.heap.size := Nat.lt_of_lt_of_le nL hb3.size
                      have m4' := (hb3.cell mL).trans m4
                      have mL' : p2 < w3.heap.size := Nat.lt_of_lt_of_le mL hb3.size
                      have y0' := (hb3.cell yL).trans y0
                      have y1' := (hb3.cell yL).trans y1
                      have y2' := (hb3.cell yL).trans y2
                      have y3' := (hb3.cell yL).trans y3
                      have yL' : p < w3.heap.size := Nat.lt_of_lt_of_le yL hb3.size
                      have HB3 := hidP hb3
                      clear x0 x1 x2 x3 x4 n0 n1 m4 k4' y0 y1 y2 y3 e0 e1 e2 e3 hb3 d0 d1 d2 d3 d4 s0 s1
                      go_wp2_with fail
                      have HSx : Hid (∀ x, Below w3.heap.size w3 x → (x.cell? ⟨wr.heap.size, 0, none⟩ = some (.bool q.p.s) ∧ x.cell? ⟨wr.heap.size, 1, none⟩ = some (.int .i64 q.p.H.toInt) ∧ x.cell? ⟨wr.heap.size, 2, none⟩ = some (.int .i64 q.p.L.toInt) ∧ x.cell? ⟨wr.heap.size, 3, none⟩ = some (.int .i64 q.p.b) ∧ x.cell? ⟨wr.heap.size, 4, none⟩ = some (.string q.t) ∧ x.cell? ⟨w.heap.size, 0, none⟩ = some (.slice (some ⟨p2, o2, none⟩) np cp) ∧ x.cell? ⟨w.heap.size, 1, none⟩ = some (.slice (some ⟨p, o, none⟩) nb cb) ∧ x.cell? ⟨p2, o2 + j * 5 + 4, none⟩ = some (.int .i64 pq.n) ∧ x.cell? ⟨p, o + J * 5, none⟩ = some (.bool r.p.s) ∧ x.cell? ⟨p, o + J * 5 + 1, none⟩ = some (.int .i64 r.p.H.toInt) ∧ x.cell? ⟨p, o + J * 5 + 2, none⟩ = some (.int .i64 r.p.L.toInt) ∧ x.cell? ⟨p, o + J * 5 + 3, none⟩ = some (.int .i64 r.p.b) ∧ Below w3.heap.size w3 x)) := hidP fun x h =>
                        ⟨(h.cell xL').trans x0', (h.cell xL').trans x1', (h.cell xL').trans x2', (h.cell xL').trans x3', (h.cell xL').trans x4', (h.cell nL').trans n0', (h.cell nL').trans n1', (h.cell mL').trans m4', (h.cell yL').trans y0', (h.cell yL').trans y1', (h.cell yL').trans y2', (h.cell yL').trans y3', h⟩
                      refine wp_region_held_drew (S := (fun x => x.cell? ⟨wr.heap.size, 0, none⟩ = some (.bool q.p.s) ∧ x.cell? ⟨wr.heap.size, 1, none⟩ = some (.int .i64 q.p.H.toInt) ∧ x.cell? ⟨wr.heap.size, 2, none⟩ = some (.int .i64 q.p.L.toInt) ∧ x.cell? ⟨wr.heap.size, 3, none⟩ = some (.int .i64 q.p.b) ∧ x.cell? ⟨wr.heap.size, 4, none⟩ = some (.string q.t) ∧ x.cell? ⟨w.heap.size, 0, none⟩ = some (.slice (some ⟨p2, o2, none⟩) np cp) ∧ x.cell? ⟨w.heap.size, 1, none⟩ = some (.slice (some ⟨p, o, none⟩) nb cb) ∧ x.cell? ⟨p2, o2 + j * 5 + 4, none⟩ = some (.int .i64 pq.n) ∧ x.cell? ⟨p, o + J * 5, none⟩ = some (.bool r.p.s) ∧ x.cell? ⟨p, o + J * 5 + 1, none⟩ = some (.int .i64 r.p.H.toInt) ∧ x.cell? ⟨p, o + J * 5 + 2, none⟩ = some (.int .i64 r.p.L.toInt) ∧ x.cell? ⟨p, o + J * 5 + 3, none⟩ = some (.int .i64 r.p.b) ∧ Below w3.heap.size w3 x)) (by kernel_rfl) ?_ (fun hHeld => ?_)
                      · try dsimp only
                        exact HSx.out _ (Below.refl _ _).drew
                      refine tkA 0 84 (v := ?_) rfl (by kernel_rfl) (fun _ _ _ h => h) (by rfl) ?_ (by assumption) ?_; rotate_left; · (intro w hSw; (try dsimp only at hSw); go_simp; try with_reducible rfl)
                      simp only [pa]
                      refine tkA 1 85 (v := ?_) rfl (by kernel_rfl) (fun _ _ _ h => h) (by rfl) ?_ (by assumption) ?_; rotate_left; · (intro w hSw; (try dsimp only at hSw); go_simp; try with_reducible rfl)
                      simp only [pa]
                      refine wpAnyH_ready (rs := [2]) (by kernel_rfl) (by simp) ?_
                      refine AllReadyH.cons rfl (fun K hK => ?_) AllReadyH.nil
                      go_simp
                      go_wp2_with (first | (go_at_call 39; refine (HQ1.out _).mono ?_; rintro e w5 ⟨rfl, hb5⟩; have b5 := (hHeld.2.2.2.2.2.2.2.2.2.2.2.2).trans (hb5.mono (hHeld.2.2.2.2.2.2.2.2.2.2.2.2).size)))
                      refine hK.out _ _ ?_ (fun hHeld => ?_)
                      · try dsimp only
                        exact HSx.out _ b5
                      clear hK K
                      refine tkA 3 87 (v := ?_) rfl (by kernel_rfl) (fun _ _ _ h => h) (by rfl) ?_ (by assumption) ?_; rotate_left; · (intro w hSw; (try dsimp only at hSw); go_simp; try with_reducible rfl)
                      simp only [pa]
                      refine tkA 4 88 (v := ?_) rfl (by kernel_rfl) (fun _ _ _ h => h) (by rfl) ?_ (by assumption) ?_; rotate_left; · (intro w hSw; (try dsimp only at hSw); go_simp; try with_reducible rfl)
                      simp only [pa]
                      refine tkA 5 89 (v := ?_) rfl (by kernel_rfl) (fun _ _ _ h => h) (by rfl) ?_ (by assumption) ?_; rotate_left; · (intro w hSw; (try dsimp only at hSw); go_simp; try with_reducible rfl)
                      simp only [pa]
                      refine tkA 6 90 (v := ?_) rfl (by kernel_rfl) (fun _ _ _ h => h) (by rfl) ?_ (by assumption) ?_; rotate_left; · (intro w hSw; (try dsimp only at hSw); go_simp; try with_reducible rfl)
                      simp only [pa]
                      refine wpAnyH_ready (rs := [7]) (by kernel_rfl) (by simp) ?_
                      refine AllReadyH.cons rfl (fun K hK => ?_) AllReadyH.nil
                      go_simp
                      go_wp2_with (first | (go_at_call 40; refine (HOw.out _).mono ?_; rintro e w' ⟨rfl, rfl⟩))
                      refine hK.out _ _ ?_ (fun hHeld => ?_)
                      · try dsimp only
                        exact HSx.out _ (hHeld.2.2.2.2.2.2.2.2.2.2.2.2)
                      clear hK K
                      refine tkA 8 92 (v := ?_) rfl (by kernel_rfl) (fun _ _ _ h => h) (by rfl) ?_ (by assumption) ?_; rotate_left; · (intro w hSw; (try dsimp only at hSw); go_simp; try with_reducible rfl)
                      simp only [pa]
                      refine tkA 9 93 (v := ?_) rfl (by kernel_rfl) (fun _ _ _ h => h) (by rfl) ?_ (by assumption) ?_; rotate_left; · (intro w hSw; (try dsimp only at hSw); go_simp; try with_reducible rfl)
                      simp only [pa]
                      refine tkA 10 94 (v := ?_) rfl (by kernel_rfl) (fun _ _ _ h => h) (by rfl) ?_ (by assumption) ?_; rotate_left; · (intro w hSw; (try dsimp only at hSw); go_simp; try with_reducible rfl)
                      simp only [pa]
                      refine tkA 11 95 (v := ?_) rfl (by kernel_rfl) (fun _ _ _ h => h) (by rfl) ?_ (by assumption) ?_; rotate_left; · (intro w hSw; (try dsimp only at hSw); go_simp; try with_reducible rfl)
                      simp only [pa]
                      refine tkA 12 96 (v := ?_) rfl (by kernel_rfl) (fun _ _ _ h => h) (by rfl) ?_ (by assumption) ?_; rotate_left; · (intro w hSw; (try dsimp only at hSw); go_simp; try with_reducible rfl)
                      simp only [pa]
                      refine tkA 13 97 (v := ?_) rfl (by kernel_rfl) (fun _ _ _ h => h) (by rfl) ?_ (by assumption) ?_; rotate_left; · (intro w hSw; (try dsimp only at hSw); go_simp; try with_reducible rfl)
                      simp only [pa]
                      refine tkA 14 98 (v := ?_) rfl (by kernel_rfl) (fun _ _ _ h => h) (by rfl) ?_ (by assumption) ?_; rotate_left; · (intro w hSw; (try dsimp only at hSw); go_simp; try with_reducible rfl)
                      simp only [pa]
                      refine tkA 15 99 (v := ?_) rfl (by kernel_rfl) (fun _ _ _ h => h) (by rfl) ?_ (by assumption) ?_; rotate_left; · (intro w hSw; (try dsimp only at hSw); go_simp; try with_reducible rfl)
                      simp only [pa]
                      refine tkA 16 100 (v := ?_) rfl (by kernel_rfl) (fun _ _ _ h => h) (by rfl) ?_ (by assumption) ?_; rotate_left; · (intro w hSw; (try dsimp only at hSw); go_simp; try with_reducible rfl)
                      simp only [pa]
                      refine tkA 17 101 (v := ?_) rfl (by kernel_rfl) (fun _ _ _ h => h) (by rfl) ?_ (by assumption) ?_; rotate_left; · (intro w hSw; (try dsimp only at hSw); go_simp; try with_reducible rfl)
                      simp only [pa]
                      refine tkA 18 102 (v := ?_) rfl (by kernel_rfl) (fun _ _ _ h => h) (by rfl) ?_ (by assumption) ?_; rotate_left; · (intro w hSw; (try dsimp only at hSw); go_simp; try with_reducible rfl)
                      simp only [pa]
                      refine tkA 19 103 (v := ?_) rfl (by kernel_rfl) (fun _ _ _ h => h) (by rfl) ?_ (by assumption) ?_; rotate_left; · (intro w hSw; (try dsimp only at hSw); go_simp; try with_reducible rfl)
                      simp only [pa]
                      refine tkA 20 104 (v := ?_) rfl (by kernel_rfl) (fun _ _ _ h => h) (by rfl) ?_ (by assumption) ?_; rotate_left; · (intro w hSw; (try dsimp only at hSw); go_simp; try with_reducible rfl)
                      simp only [pa]
                      refine tkA 21 105 (v := ?_) rfl (by kernel_rfl) (fun _ _ _ h => h) (by rfl) ?_ (by assumption) ?_; rotate_left; · (intro w hSw; (try dsimp only at hSw); go_simp; try with_reducible rfl)
                      simp only [pa]
                      refine tkA 22 106 (v := ?_) rfl (by kernel_rfl) (fun _ _ _ h => h) (by rfl) ?_ (by assumption) ?_; rotate_left; · (intro w hSw; (try dsimp only at hSw); go_simp; try with_reducible rfl)
                      simp only [pa]
                      refine tkA 23 107 (v := ?_) rfl (by kernel_rfl) (fun _ _ _ h => h) (by rfl) ?_ (by assumption) ?_; rotate_left; · (intro w hSw; (try dsimp only at hSw); go_simp; try with_reducible rfl)
                      simp only [pa]
                      refine tkA 24 108 (v := ?_) rfl (by kernel_rfl) (fun _ _ _ h => h) (by rfl) ?_ (by assumption) ?_; rotate_left; · (intro w hSw; (try dsimp only at hSw); go_simp; try with_reducible rfl)
                      simp only [pa]
                      refine tkA 25 109 (v := ?_) rfl (by kernel_rfl) (fun _ _ _ h => h) (by rfl) ?_ (by assumption) ?_; rotate_left; · (intro w hSw; (try dsimp only at hSw); go_simp; try with_reducible rfl)
                      simp only [pa]
                      refine tkA 26 110 (v := ?_) rfl (by kernel_rfl) (fun _ _ _ h => h) (by rfl) ?_ (by assumption) ?_; rotate_left; · (intro w hSw; (try dsimp only at hSw); go_simp; try with_reducible rfl)
                      simp only [pa]
                      refine tkA 27 111 (v := ?_) rfl (by kernel_rfl) (fun _ _ _ h => h) (by rfl) ?_ (by assumption) ?_; rotate_left; · (intro w hSw; (try dsimp only at hSw); go_simp; try with_reducible rfl)
                      simp only [pa]
                      refine tkA 28 112 (v := ?_) rfl (by kernel_rfl) (fun _ _ _ h => h) (by rfl) ?_ (by assumption) ?_; rotate_left; · (intro w hSw; (try dsimp only at hSw); go_simp; try with_reducible rfl)
                      simp only [pa]
                      refine tkA 29 113 (v := ?_) rfl (by kernel_rfl) (fun _ _ _ h => h) (by rfl) ?_ (by assumption) ?_; rotate_left; · (intro w hSw; (try dsimp only at hSw); go_simp; try with_reducible rfl)
                      simp only [pa]
                      refine tkA 30 114 (v := ?_) rfl (by kernel_rfl) (fun _ _ _ h => h) (by rfl) ?_ (by assumption) ?_; rotate_left; · (intro w hSw; (try dsimp only at hSw); go_simp; try with_reducible rfl)
                      simp only [pa]
                      refine tkA 31 115 (v := ?_) rfl (by kernel_rfl) (fun _ _ _ h => h) (by rfl) ?_ (by assumption) ?_; rotate_left; · (intro w hSw; (try dsimp only at hSw); go_simp; try with_reducible rfl)
                      simp only [pa]
                      refine tkA 32 116 (v := ?_) rfl (by kernel_rfl) (fun _ _ _ h => h) (by rfl) ?_ (by assumption) ?_; rotate_left; · (intro w hSw; (try dsimp only at hSw); go_simp; try with_reducible rfl)
                      simp only [pa]
                      refine tkA 33 117 (v := ?_) rfl (by kernel_rfl) (fun _ _ _ h => h) (by rfl) ?_ (by assumption) ?_; rotate_left; · (intro w hSw; (try dsimp only at hSw); go_simp; try with_reducible rfl)
                      simp only [pa]
                      refine tkA 34 118 (v := ?_) rfl (by kernel_rfl) (fun _ _ _ h => h) (by rfl) ?_ (by assumption) ?_; rotate_left; · (intro w hSw; (try dsimp only at hSw); go_simp; try with_reducible rfl)
                      simp only [pa]
                      refine tkA 35 119 (v := ?_) rfl (by kernel_rfl) (fun _ _ _ h => h) (by rfl) ?_ (by assumption) ?_; rotate_left; · (intro w hSw; (try dsimp only at hSw); go_simp; try with_reducible rfl)
                      simp only [pa]
                      refine tkA 36 120 (v := ?_) rfl (by kernel_rfl) (fun _ _ _ h => h) (by rfl) ?_ (by assumption) ?_; rotate_left; · (intro w hSw; (try dsimp only at hSw); go_simp; try with_reducible rfl)
                      simp only [pa]
                      refine tkA 37 121 (v := ?_) rfl (by kernel_rfl) (fun _ _ _ h => h) (by rfl) ?_ (by assumption) ?_; rotate_left; · (intro w hSw; (try dsimp only at hSw); go_simp; try with_reducible rfl)
                      simp only [pa]
                      refine tkA 38 122 (v := ?_) rfl (by kernel_rfl) (fun _ _ _ h => h) (by rfl) ?_ (by assumption) ?_; rotate_left; · (intro w hSw; (try dsimp only at hSw); go_simp; try with_reducible rfl)
                      simp only [pa]
                      refine wpAnyH_ready (rs := [39]) (by kernel_rfl) (by simp) ?_
                      refine AllReadyH.cons rfl (fun K hK => ?_) AllReadyH.nil
                      go_simp
                      go_wp2_with (first | (go_at_call 36; refine (HC.out _).mono ?_; rintro e w6 ⟨rfl, hb6⟩; have b6 := (hHeld.2.2.2.2.2.2.2.2.2.2.2.2).trans (hb6.mono (hHeld.2.2.2.2.2.2.2.2.2.2.2.2).size)))
                      refine hK.out _ _ ?_ (fun hHeld => ?_)
                      · try dsimp only
                        exact HSx.out _ b6
                      clear hK K
                      refine tkA 40 124 (v := ?_) rfl (by kernel_rfl) (fun _ _ _ h => h) (by rfl) ?_ (by assumption) ?_; rotate_left; · (intro w hSw; (try dsimp only at hSw); go_simp; try with_reducible rfl)
                      simp only [pa]
                      refine tkA 41 125 (v := ?_) rfl (by kernel_rfl) (fun _ _ _ h => h) (by rfl) ?_ (by assumption) ?_; rotate_left; · (intro w hSw; (try dsimp only at hSw); go_simp; try with_reducible rfl)
                      simp only [pa]
                      refine tkA 42 126 (v := ?_) rfl (by kernel_rfl) (fun _ _ _ h => h) (by rfl) ?_ (by assumption) ?_; rotate_left; · (intro w hSw; (try dsimp only at hSw); go_simp; try with_reducible rfl)
                      simp only [pa]
                      have HE := hidP (hHeld.2.2.2.2.2.2.2.2.2.2.2.2)
                      refine wpAnyH_done (by kernel_rfl) ?_ _
                      clear hHeld
                      go_wp2_with fail
                      go_roundw
                      case rel => exact ⟨i + 1, by omega, by go_num, by rw [HF.out, HNx.out], (fun r h => by rw [HNx.out] at h; cases h; exact HPk.out), HBel.out.trans ((below_box HXB.out HXB.out.size HB3.out HE.out).mono HBel.out.size)⟩
                      case measure => simp [intOf]; omega
        · have HF : Hid ((poolsF none ps && blocksS ps none bs) = true) := by
            rw [List.drop_of_length_le (by have := HNB.out; omega)] at hpo
            refine hidP ?_
            rw [HPT.out, hpo]; rfl
          have HBel := hidP hbel
          clear hbel hpo hpr
          go_wp2_with fail
          go_ret
          exact ⟨ret_b HF.out.symm, HUB.out.trans ((HBel0.out.trans (HBel.out.mono HBel0.out.size)).mono HUB.out.size)⟩

end Go.Proofs.YtplocbpngikohaaGreat
namespace Go.Proofs.YtplocbpngikohaaGreat
open Go.RowKit

set_option maxHeartbeats 1000000 in
theorem sPlanOk_any (ap : Option Addr) (np cp : Nat) (ab : Option Addr) (nb cb : Nat) (ps : List Pl) (bs : List Bk) (w : World) (hnp : np = ps.length) (hnb : nb = bs.length) (hP : RowG KPl w ap ps) (hK : RowG KBk w ab bs) (hlp : np ≤ 9000000000) (hl : nb ≤ 9000000000) (hst : ∀ q ∈ bs, q.t.size ≤ 9223372036854775807) :
    Calls Tryz.prog 16 #[.agg #[.slice ap np cp, .slice ab nb cb]] w fun e w' => e = .returned (.bool (planB ps bs)) ∧ Below w.heap.size w w' := by
  by_cases h1 : np ≤ 20
  · by_cases h2 : nb ≤ 60
    · have hv : planB ps bs = (poolsF none ps && blocksS ps none bs) := by
        unfold planB
        rw [decide_eq_true (hnp ▸ h1), decide_eq_true (hnb ▸ h2), Bool.true_and, Bool.true_and]
        cases hp : poolsF none ps
        · rfl
        · rw [Bool.true_and, Bool.true_and]
          exact (blocks_same (pools_dsj ps none (fun _ h => by cases h) hp).1 bs none (fun _ h => by cases h)).symm
      rw [hv]
      exact sPlanOk_core ap np cp ab nb cb ps bs w hnp hnb hP hK h1 h2 hst
    · have hv : planB ps bs = false := by
        unfold planB
        rw [decide_eq_false (hnb ▸ h2 : ¬ bs.length ≤ 60), Bool.and_false, Bool.false_and]
      rw [hv]
      have g1 : decide ((20 : Int) < (np : Int)) = false := decide_eq_false (by omega)
      have g2 : decide ((60 : Int) < (nb : Int)) = true := decide_eq_true (by omega)
      clear hP hK hnp hnb hst hv
      go_enter Tryz.func16, Tryz.ntmps16
      go_wp2_with fail
      go_ret
      exact ⟨rfl, (Below.refl _ _).alloc (Nat.le_refl _) _⟩
  · have hv : planB ps bs = false := by
      unfold planB
      rw [decide_eq_false (hnp ▸ h1 : ¬ ps.length ≤ 20), Bool.false_and, Bool.false_and]
    rw [hv]
    have g1 : decide ((20 : Int) < (np : Int)) = true := decide_eq_true (by omega)
    clear hP hK hnp hnb hst hv
    go_enter Tryz.func16, Tryz.ntmps16
    go_wp2_with fail
    go_ret
    exact ⟨rfl, (Below.refl _ _).alloc (Nat.le_refl _) _⟩

end Go.Proofs.YtplocbpngikohaaGreat
namespace Go.Proofs.YtplocbpngikohaaGreat
open Go.RowKit

set_option maxHeartbeats 1000000 in
theorem iHasAddr_any (s : Bool) (H L : BitVec 64) (b : Int) (s' : Bool) (H' L' : BitVec 64) (w : World) :
    Calls Tryz.prog 82 #[.agg #[.bool s, .int .i64 H.toInt, .int .i64 L.toInt, .int .i64 b], .agg #[.bool s', .int .i64 H'.toInt, .int .i64 L'.toInt]] w fun e w' => e = .returned (.bool (hadB s H L b s' H' L')) ∧ Below w.heap.size w w' := by
  cases hp : pokB s H L b
  · rw [show hadB s H L b s' H' L' = false by simp [hadB, hp]]
    have HS : Hid (∀ w, _) := spanOf_no s H L b hp
    clear hp
    go_enter Tryz.func82, Tryz.ntmps82
    go_wp2_with fail
    refine (HS.out _).mono ?_
    rintro e w1 ⟨rfl, hb1⟩
    have hz1 := hb1.size
    try simp at hz1
    have f10 : w.heap.size < w1.heap.size := by omega
    have f11 : w.heap.size + 1 < w1.heap.size := by omega
    refine olds_k (w.heap.size + 2) hb1 ?_ ?_
    · first | omega | (simp; omega) | (simp; done)
    intro hc1 hf1
    go_wp2_with fail
    go_ret
    refine ⟨rfl, ?_⟩
    repeat (first | with_reducible exact Below.refl _ _ | (with_reducible refine Below.drew ?_) | (with_reducible refine Below.alloc ?_ ?_ _; rotate_left; (focus (first | omega | (simp; omega) | (simp; done)))) | (with_reducible refine Below.setCell ?_ ?_ _; rotate_left; (focus (first | omega | (simp; omega) | (simp; done)))) | (with_reducible refine Below.trans ?_ (hb1.mono ?_); rotate_left; (focus (first | omega | (simp; omega) | (simp; done)))))
  obtain ⟨n, hn⟩ : ∃ n : Nat, (n : Int) = (wd s : Int) - b := ⟨((wd s : Int) - b).toNat, by have := (pokB_parts hp).2.1; omega⟩
  have hn1 : n ≤ 128 := by have := wd_le' s; have := (pokB_parts hp).2.1; omega
  have HS : Hid (∀ w, _) := spanOf_yes s H L b n hn hp
  have HK : Hid (∀ w, _) := iAddrOk_any s' H'.toInt L'.toInt
  have HH : Hid (∀ w, _) := has_any s H L n hn1 s' H' L'
  have eh : hadB s H L b s' H' L' = (okB s' H'.toInt L'.toInt && hasB s H L n s' H' L') := by rw [hadB, hp, ← hn]; rfl
  rw [eh]
  clear eh hp hn hn1
  generalize okB s' H'.toInt L'.toInt = B1 at HK ⊢
  generalize hasB s H L n s' H' L' = B2 at HH ⊢
  cases B1
  · rw [Bool.false_and]
    go_enter Tryz.func82, Tryz.ntmps82
    go_wp2_with fail
    refine (HS.out _).mono ?_
    rintro e w1 ⟨rfl, hb1⟩
    have hz1 := hb1.size
    try simp at hz1
    have f10 : w.heap.size < w1.heap.size := by omega
    have f11 : w.heap.size + 1 < w1.heap.size := by omega
    refine olds_k (w.heap.size + 2) hb1 ?_ ?_
    · first | omega | (simp; omega) | (simp; done)
    intro hc1 hf1
    go_wp2_with fail
    refine (HK.out _).mono ?_
    rintro e w2 ⟨rfl, hb2⟩
    have hz2 := hb2.size
    try simp at hz2
    have f2x0 : w.heap.size < w2.heap.size := by omega
    have f2x1 : w.heap.size + 1 < w2.heap.size := by omega
    have f2x2 : w1.heap.size < w2.heap.size := by omega
    have f2x3 : w.heap.size + 1 < w1.heap.size + 1 := by omega
    refine olds_k (w1.heap.size + 1) hb2 ?_ ?_
    · first | omega | (simp; omega) | (simp; done)
    intro hc2 hf2
    go_wp2_with fail
    go_ret
    refine ⟨rfl, ?_⟩
    repeat (first | with_reducible exact Below.refl _ _ | (with_reducible refine Below.drew ?_) | (with_reducible refine Below.alloc ?_ ?_ _; rotate_left; (focus (first | omega | (simp; omega) | (simp; done)))) | (with_reducible refine Below.setCell ?_ ?_ _; rotate_left; (focus (first | omega | (simp; omega) | (simp; done)))) | (with_reducible refine Below.trans ?_ (hb2.mono ?_); rotate_left; (focus (first | omega | (simp; omega) | (simp; done)))) | (with_reducible refine Below.trans ?_ (hb1.mono ?_); rotate_left; (focus (first | omega | (simp; omega) | (simp; done)))))
  · rw [Bool.true_and]
    go_enter Tryz.func82, Tryz.ntmps82
    go_wp2_with fail
    refine (HS.out _).mono ?_
    rintro e w1 ⟨rfl, hb1⟩
    have hz1 := hb1.size
    try simp at hz1
    have f10 : w.heap.size < w1.heap.size := by omega
    have f11 : w.heap.size + 1 < w1.heap.size := by omega
    refine olds_k (w.heap.size + 2) hb1 ?_ ?_
    · first | omega | (simp; omega) | (simp; done)
    intro hc1 hf1
    go_wp2_with fail
    refine (HK.out _).mono ?_
    rintro e w2 ⟨rfl, hb2⟩
    have hz2 := hb2.size
    try simp at hz2
    have f2x0 : w.heap.size < w2.heap.size := by omega
    have f2x1 : w.heap.size + 1 < w2.heap.size := by omega
    have f2x2 : w1.heap.size < w2.heap.size := by omega
    have f2x3 : w.heap.size + 1 < w1.heap.size + 1 := by omega
    refine olds_k (w1.heap.size + 1) hb2 ?_ ?_
    · first | omega | (simp; omega) | (simp; done)
    intro hc2 hf2
    go_wp2_with fail
    refine (HH.out _).mono ?_
    rintro e w3 ⟨rfl, hb3⟩
    have hz3 := hb3.size
    try simp at hz3
    have f30 : w.heap.size < w3.heap.size := by omega
    have f31 : w.heap.size + 1 < w3.heap.size := by omega
    refine olds_k (w.heap.size + 2) hb3 ?_ ?_
    · first | omega | (simp; omega) | (simp; done)
    intro hc3 hf3
    go_wp2_with fail
    go_ret
    refine ⟨rfl, ?_⟩
    repeat (first | with_reducible exact Below.refl _ _ | (with_reducible refine Below.drew ?_) | (with_reducible refine Below.alloc ?_ ?_ _; rotate_left; (focus (first | omega | (simp; omega) | (simp; done)))) | (with_reducible refine Below.setCell ?_ ?_ _; rotate_left; (focus (first | omega | (simp; omega) | (simp; done)))) | (with_reducible refine Below.trans ?_ (hb3.mono ?_); rotate_left; (focus (first | omega | (simp; omega) | (simp; done)))) | (with_reducible refine Below.trans ?_ (hb2.mono ?_); rotate_left; (focus (first | omega | (simp; omega) | (simp; done)))) | (with_reducible refine Below.trans ?_ (hb1.mono ?_); rotate_left; (focus (first | omega | (simp; omega) | (simp; done)))))

end Go.Proofs.YtplocbpngikohaaGreat
