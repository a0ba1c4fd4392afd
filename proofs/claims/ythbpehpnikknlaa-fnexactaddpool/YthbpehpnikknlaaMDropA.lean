/-
  The specification's l5Copy: a plan of the same things in rows of its own.
-/
import Derived.Test.YthbpehpnikknlaaVBlocks
import Derived.Test.YthbpehpnikknlaaVSPlan
import Derived.Test.YthbpehpnikknlaaGRow
import Derived.Laws.BytesArg
import Derived.Test.YthbpehpnikknlaaRPool
import Derived.Test.YthbpehpnikknlaaRBlock
import Derived.Test.YthbpehpnikknlaaVPool
import Derived.Test.YthbpehpnikknlaaPEq
import Derived.Lib.SliceRun
import Derived.Test.YthbpehpnikknlaaACmpS
import Derived.Test.YthbpehpnikknlaaPRow
import Derived.Test.YthbpehpnikknlaaVIPlan
import Derived.Test.YthbpehpnikknlaaVSPool
namespace Go.Proofs.Ythbpehpnikknlaa
open Go.ChangeShapes Go.WideShapes Go.ChangeAt Go.RowKit Go.Joins Go.Deep

theorem rowsG_of2 {α : Type} {K : Kd α} {E : α → Prop} {W : World} (a : Option Addr) : ∀ n : Nat, (∀ j, j < n → ∃ p o q, a = some ⟨p, o, none⟩ ∧ p < W.heap.size ∧ (∀ i v, (K.cs q)[i]? = some v → W.cell? ⟨p, o + j * K.k + i, none⟩ = some v) ∧ E q) → ∃ ps : List α, ps.length = n ∧ RowG K W a ps ∧ ∀ q ∈ ps, E q
  | 0, _ => ⟨[], rfl, RowG.nil _ _ _, fun _ h => by cases h⟩
  | n + 1, h => by
      obtain ⟨ps, hl, hb, he⟩ := rowsG_of2 a n (fun j hj => h j (by omega))
      obtain ⟨p, o, q, ha, hp, c, hq⟩ := h n (by omega)
      refine ⟨ps ++ [q], by simp [hl], fun j hj => ?_, fun x hx => ?_⟩
      · by_cases hjn : j < n
        · obtain ⟨p', o', z, ha', hp', hz, hc'⟩ := hb j (by omega)
          exact ⟨p', o', z, ha', hp', by rw [List.getElem?_append_left (by omega)]; exact hz, hc'⟩
        · have : j = n := by simp at hj; omega
          subst this
          exact ⟨p, o, q, ha, hp, by rw [List.getElem?_append_right (by omega), hl]; simp, c⟩
      · rcases List.mem_append.1 hx with hx | hx
        · exact he x hx
        · rw [List.mem_singleton] at hx; subst hx; exact hq

/-- One out of its five cells. -/
theorem ofBk2 {H : Type} {enc : TypeId × Value → H} {W : World} {fuel : Nat} {cs : List Value} {x : DataW H × List MemPlace} (hl : cs.length = 5)
    (h : DataW.trod enc Try.prog W 0 (fun _ => true) true fuel 92 cs = some x) : ∃ q : Bk, cs = q.cs ∧ q.t.size ≤ 9223372036854775807 := by
  match cs, hl with
  | [c0, c1, c2, c3, c4], _ =>
    obtain ⟨z0, z1, n, hx, _, h0, h1⟩ := trod_struct2 Try.underlying92 h
    have k0 : Try.prog.cellsOf 39 = 4 := by kernel_rfl
    have kl : Try.prog.cellsOf 9 = 1 := by kernel_rfl
    simp [k0, kl] at h0 h1
    obtain ⟨p, hp⟩ := pf_of rfl h0
    obtain ⟨y, e1, _, wy⟩ := DataW.trod_string Try.underlying9 h1
    simp at e1
    subst e1
    have hp' : [c0, c1, c2, c3] = [.bool p.s, .int .i64 p.H.toInt, .int .i64 p.L.toInt, .int .i64 p.b] := hp
    simp only [List.cons.injEq, and_true] at hp'
    obtain ⟨rfl, rfl, rfl, rfl⟩ := hp'
    exact ⟨⟨p, y⟩, rfl, by unfold maxLen at wy; show y.size ≤ _; omega⟩

set_option maxRecDepth 100000 in
/-- The things out of the reading of a row of them. -/
theorem openBk2 {H : Type} {enc : TypeId × Value → H} {W : World} {a : Option Addr} {len cap : Nat} {d : DataW H} {p : List MemPlace}
    (h : DataW.Trod enc Try.prog W 0 (fun _ => true) true 24 (.slice a len cap) d p) : ∃ ps : List Bk, ps.length = len ∧ len ≤ 9223372036854775807 ∧ RowG KBk W a ps ∧ ∀ q ∈ ps, q.t.size ≤ 9223372036854775807 := by
  obtain ⟨fuel, hf⟩ := h
  rcases open_slice Try.underlying24 hf with ⟨hcs, _⟩ | ⟨a', len', cap', m, n, D, Plc, hcs, _, hl, hmx, hm, _, hV⟩
  · simp [Value.cells] at hcs
    obtain ⟨rfl, rfl, rfl⟩ := hcs
    exact ⟨[], rfl, by omega, RowG.nil _ _ _, fun _ h => by cases h⟩
  · simp [Value.cells] at hcs
    obtain ⟨rfl, rfl, rfl⟩ := hcs
    suffices h9 : ∃ ps : List Bk, ps.length = len ∧ RowG KBk W (some a') ps ∧ ∀ q ∈ ps, q.t.size ≤ 9223372036854775807 by
      obtain ⟨ps, h1, h2⟩ := h9
      exact ⟨ps, h1, by unfold maxLen at hmx; omega, h2⟩
    refine rowsG_of2 (E := fun q : Bk => q.t.size ≤ 9223372036854775807) _ _ fun j hj => ?_
    simp at hm
    obtain ⟨cs', h1, h2⟩ := hV j (by omega)
    rw [Try.cellsBk] at h1
    obtain ⟨_, hlen, hcell⟩ := World.cells?_some h1
    obtain ⟨q, rfl, hq9⟩ := ofBk2 hlen h2
    obtain ⟨p', o', sp⟩ := a'
    cases sp with
    | some r =>
      exfalso
      obtain ⟨cs0, g1, g2⟩ := hV 0 (by omega)
      rw [Try.cellsBk] at g1
      obtain ⟨_, glen, gcell⟩ := World.cells?_some g1
      obtain ⟨q0, rfl, _⟩ := ofBk2 glen g2
      have h0 := gcell 0 (by omega)
      rw [Nat.zero_mul, show Addr.add (Addr.add ⟨p', o', some r⟩ 0) 0 = ⟨p', o', some r⟩ from rfl] at h0
      unfold World.cell? at h0
      split at h0
      · simp [Bk.cs] at h0
      · cases h0
    | none =>
      have ea : ∀ i k : Nat, Addr.add (Addr.add ⟨p', o', none⟩ i) k = ⟨p', o' + i + k, none⟩ := fun i k => by
        have ea1 : ∀ (o k : Nat), Addr.add ⟨p', o, none⟩ k = ⟨p', o + k, none⟩ := fun o k => by unfold Addr.add; split <;> simp_all
        rw [ea1, ea1]
      have hall : ∀ i v, (KBk.cs q)[i]? = some v → W.cell? ⟨p', o' + j * KBk.k + i, none⟩ = some v := fun i v hv => by
        have hi : i < 5 := by
          rcases Nat.lt_or_ge i (KBk.cs q).length with h1 | h1
          · exact h1
          · rw [List.getElem?_eq_none h1] at hv; cases hv
        have e0 := hcell i hi
        rw [ea] at e0
        exact e0.trans hv
      exact ⟨p', o', q, rfl, World.block_lt_of_cell? W _ (hall 0 _ rfl), hall, hq9⟩

/-- How many bytes the owners have. -/
def sumT : List Bk → Nat
  | [] => 0
  | q :: t => q.t.size + sumT t
theorem sumT_app : ∀ xs ys : List Bk, sumT (xs ++ ys) = sumT xs + sumT ys
  | [], ys => by simp [sumT]
  | q :: t, ys => by simp [sumT, sumT_app t ys]; omega
theorem sumT_next {bs : List Bk} {k : Nat} {q : Bk} (h : bs[k]? = some q) : sumT (bs.take (k + 1)) = sumT (bs.take k) + q.t.size := by
  rw [List.take_add_one, h, sumT_app]; simp [sumT]
theorem sumT_le (bs : List Bk) (k : Nat) : sumT (bs.take k) ≤ sumT bs := by
  conv => rhs; rw [← List.take_append_drop k bs, sumT_app]
  omega

def szO (l : Int) (n : Nat) : Int := if l - (n : Int) < 0 then -1 else l - (n : Int)
def szB (n s : Nat) (l : Int) : Int := if (n : Int) + (s : Int) ≤ l then l - n - s else -1
def szT (t : Int) : Int := if t ≤ 1048576 then 1048576 - t else -1
theorem szO_yes {l : Int} {n : Nat} (h : l - (n : Int) < 0) : szO l n = -1 := by unfold szO; rw [if_pos h]
theorem szO_no {l : Int} {n : Nat} (h : ¬ l - (n : Int) < 0) : szO l n = l - (n : Int) := by unfold szO; rw [if_neg h]
theorem szB_yes {n s : Nat} {l : Int} (h : (n : Int) + (s : Int) ≤ l) : szB n s l = l - n - s := by unfold szB; rw [if_pos h]
theorem szB_no {n s : Nat} {l : Int} (h : ¬ (n : Int) + (s : Int) ≤ l) : szB n s l = -1 := by unfold szB; rw [if_neg h]
theorem szT_yes {t : Int} (h : t ≤ 1048576) : szT t = 1048576 - t := by unfold szT; rw [if_pos h]
theorem szT_no {t : Int} (h : ¬ t ≤ 1048576) : szT t = -1 := by unfold szT; rw [if_neg h]

set_option maxHeartbeats 400000 in
theorem szBlock_any (q : Bk) (l : Int) (h0 : 0 ≤ l) (h1 : l ≤ 1048576) (h9 : q.t.size ≤ 9223372036854775807) (w : World) :
    Calls Try.prog 69 #[.agg #[.bool q.p.s, .int .i64 q.p.H.toInt, .int .i64 q.p.L.toInt, .int .i64 q.p.b, .string q.t], .int .i64 l] w fun e w' => e = .returned (.int .i64 (szO l q.t.size)) ∧ Below w.heap.size w w' := by
  by_cases hd : l - (q.t.size : Int) < 0
  · rw [szO_yes hd]
    go_enter Try.func69, Try.ntmps69
    go_wp2
    go_ret
    exact ⟨rfl, (Below.refl _ _).alloc (Nat.le_refl _) _⟩
  · rw [szO_no hd]
    have hd2 : decide (l - (q.t.size : Int) < 0) = false := decide_eq_false hd
    go_enter Try.func69, Try.ntmps69
    go_wp2
    go_ret
    exact ⟨rfl, (Below.refl _ _).alloc (Nat.le_refl _) _⟩

set_option maxHeartbeats 1000000 in
theorem szBlockS_any (a : Option Addr) (n cap : Nat) (bs : List Bk) (l : Int) (h0 : 0 ≤ l) (h1 : l ≤ 1048576) (w : World) (hn : n = bs.length) (hB : RowG KBk w a bs) (h9 : n ≤ 9223372036854775807) (hst : ∀ q ∈ bs, q.t.size ≤ 9223372036854775807) :
    Calls Try.prog 36 #[.slice a n cap, .int .i64 l] w fun e w' => e = .returned (.int .i64 (szB n (sumT bs) l)) ∧ Below w.heap.size w w' := by
  have HB := hidP hB
  have HN := hidP hn
  have HST := hidP hst
  clear hB hn hst
  by_cases hnl : l < (n : Int)
  · rw [szB_no (by omega)]
    have d1 : decide (l - (n : Int) < 0) = true := decide_eq_true (by omega)
    go_enter Try.func36, Try.ntmps36
    go_wp2
    go_ret
    exact ⟨rfl, Below.refl _ _⟩
  · have d1 : decide (l - (n : Int) < 0) = false := decide_eq_false (by omega)
    have d2 : ¬ (l - (n : Int) < 0) := by omega
    go_enter Try.func36, Try.ntmps36
    go_wp2_with fail
    go_loopw [1, 5] (fun t1 t5 wr => ∃ (k : Nat) (z : Int), k ≤ n ∧ t5 = .int .i64 k ∧ t1 = .int .i64 z ∧ z = l - n - sumT (bs.take k) ∧ 0 ≤ z ∧ Below w.heap.size w wr) (fun _ t5 _ => n - (intOf t5).toNat)
    case atStart => exact ⟨0, l - n, Nat.zero_le _, rfl, rfl, by simp [sumT], by omega, Below.refl _ _⟩
    case round =>
      obtain ⟨k, z, hk, rfl, rfl, hz, hz0, hbel⟩ := hrel
      by_cases hlt : k < n
      · obtain ⟨p, o, q, rfl, hp, hq, c0, c1, c2, c3, c4⟩ := rowBk HB.out k (by rw [← HN.out]; exact hlt)
        have d0 := (hbel.cell hp).trans c0
        have d1 := (hbel.cell hp).trans c1
        have d2 := (hbel.cell hp).trans c2
        have d3 := (hbel.cell hp).trans c3
        have d4 := (hbel.cell hp).trans c4
        have HBel := hidP hbel
        have HNx := hidP (sumT_next hq)
        have HLe := hidP (sumT_le bs (k + 1))
        have hz1 : z ≤ 1048576 := by omega
        have HZ := hidP hz
        have HS := hidP (szBlock_any q z hz0 hz1 (HST.out q (List.mem_of_getElem? hq)))
        clear c0 c1 c2 c3 c4 hq hbel hz
        by_cases hd : z - (q.t.size : Int) < 0
        · rw [szO_yes hd] at HS
          have HF : Hid (¬ ((n : Int) + (sumT bs : Int) ≤ l)) := hidP (by have := HZ.out; have := HNx.out; have := HLe.out; omega)
          go_wp2_with fail
          refine (HS.out _).mono ?_
          rintro e w2 ⟨rfl, hb2⟩
          have HB2 := hidP (HBel.out.trans (hb2.mono HBel.out.size))
          clear hb2 HBel d0 d1 d2 d3 d4
          go_wp2_with fail
          go_ret
          exact ⟨ret_i (szB_no (by have := HF.out; omega)).symm, HB2.out⟩
        · rw [szO_no hd] at HS
          have hd2 : decide (z - (q.t.size : Int) < 0) = false := decide_eq_false hd
          go_wp2_with fail
          refine (HS.out _).mono ?_
          rintro e w2 ⟨rfl, hb2⟩
          have HB2 := hidP (HBel.out.trans (hb2.mono HBel.out.size))
          clear hb2 HBel d0 d1 d2 d3 d4
          go_wp2_with fail
          go_roundw
          case rel => exact ⟨k + 1, z - (q.t.size : Int), by omega, by go_num, rfl, by have := HZ.out; have := HNx.out; omega, by omega, HB2.out⟩
          case measure => simp [intOf]; omega
      · have hkn : k = n := by omega
        have HF : Hid ((n : Int) + (sumT bs : Int) ≤ l ∧ z = l - n - sumT bs) := by
          rw [List.take_of_length_le (by have := HN.out; omega)] at hz
          exact hidP ⟨by omega, hz⟩
        have HBel := hidP hbel
        clear hbel hz
        go_wp2_with fail
        go_ret
        exact ⟨ret_i (by rw [szB_yes HF.out.1, ← HF.out.2]), HBel.out⟩

theorem box2L (w : World) (t : TypeId) (u v : Value) : (w.alloc (.cells #[u, v] t)).cell? ⟨w.heap.size, 0, none⟩ = some u ∧ (w.alloc (.cells #[u, v] t)).cell? ⟨w.heap.size, 1, none⟩ = some v := ⟨by simp [go_sem], by simp [go_sem]⟩
/-- How much of a law's room a plan takes. -/
def totP (ps : List Pl) (bs : List Bk) : Int := ps.length + (bs.length + sumT bs)

set_option maxHeartbeats 1000000 in
theorem szPlan_any (ap : Option Addr) (np cp : Nat) (ab : Option Addr) (nb cb : Nat) (ps : List Pl) (bs : List Bk) (w : World) (hnp : np = ps.length) (hnb : nb = bs.length) (hK : RowG KBk w ab bs) (h9 : np ≤ 9223372036854775807) (h9' : nb ≤ 9223372036854775807) (hst : ∀ q ∈ bs, q.t.size ≤ 9223372036854775807) :
    Calls Try.prog 11 #[.agg #[.slice ap np cp, .slice ab nb cb], .int .i64 1048576] w fun e w' => e = .returned (.int .i64 (szT (totP ps bs))) ∧ Below w.heap.size w w' := by
  unfold totP
  rw [← hnp, ← hnb]
  by_cases hl : (np : Int) ≤ 1048576
  · have HP := hidP (szPoolS_any ap np cp 1048576 hl (Int.le_refl _))
    have HBk := hidP (fun W h => szBlockS_any ab nb cb bs (1048576 - np) (by omega) (by omega) W hnb (hK.later h) h9' hst)
    have hz0 : ¬ (1048576 - (np : Int) < 0) := by omega
    have hz1 : decide (1048576 - (np : Int) < 0) = false := decide_eq_false hz0
    clear hK hnp hnb hst
    by_cases ht : (nb : Int) + (sumT bs : Int) ≤ 1048576 - np
    · rw [szB_yes ht] at HBk
      rw [szT_yes (by omega)]
      have hz2 : decide (1048576 - (np : Int) - (nb : Int) - (sumT bs : Int) < 0) = false := decide_eq_false (by omega)
      generalize he : (1048576 - (np : Int) - (nb : Int) - (sumT bs : Int)) = z at *
      have hz3 : ¬ z < 0 := by omega
      have HE := hidP he
      clear he
      go_enter Try.func11, Try.ntmps11
      go_wp2_with fail
      obtain ⟨u0, u1⟩ := box2 (u := .slice ap np cp) (v := .slice ab nb cb) w 26
      have uB := alloc_below w (.cells #[.slice ap np cp, .slice ab nb cb] 26)
      have uL := alloc_lt w (.cells #[.slice ap np cp, .slice ab nb cb] 26)
      have uS : (w.alloc (.cells #[.slice ap np cp, .slice ab nb cb] 26)).heap.size = w.heap.size + 1 := by simp
      generalize w.alloc (.cells #[.slice ap np cp, .slice ab nb cb] 26) = W1 at *
      have HU := hidP uB
      refine (HP.out _).mono ?_
      rintro e w1 ⟨rfl, rfl⟩
      clear uB uS
      go_wp2_with fail
      refine (HBk.out _ HU.out).mono ?_
      rintro e w2 ⟨rfl, hb2⟩
      have HB2 := hidP hb2
      clear hb2
      go_wp2_with fail
      go_ret
      exact ⟨ret_i (by have := HE.out; omega), HU.out.trans (HB2.out.mono HU.out.size)⟩
    · rw [szB_no ht] at HBk
      rw [szT_no (by omega)]
      go_enter Try.func11, Try.ntmps11
      go_wp2_with fail
      obtain ⟨u0, u1⟩ := box2 (u := .slice ap np cp) (v := .slice ab nb cb) w 26
      have uB := alloc_below w (.cells #[.slice ap np cp, .slice ab nb cb] 26)
      have uL := alloc_lt w (.cells #[.slice ap np cp, .slice ab nb cb] 26)
      have uS : (w.alloc (.cells #[.slice ap np cp, .slice ab nb cb] 26)).heap.size = w.heap.size + 1 := by simp
      generalize w.alloc (.cells #[.slice ap np cp, .slice ab nb cb] 26) = W1 at *
      have HU := hidP uB
      refine (HP.out _).mono ?_
      rintro e w1 ⟨rfl, rfl⟩
      clear uB uS
      go_wp2_with fail
      refine (HBk.out _ HU.out).mono ?_
      rintro e w2 ⟨rfl, hb2⟩
      have HB2 := hidP hb2
      clear hb2
      go_wp2_with fail
      go_ret
      exact ⟨rfl, HU.out.trans (HB2.out.mono HU.out.size)⟩
  · have HP := hidP (szPoolS_big ap np cp 1048576 (by omega) (by omega) h9)
    rw [szT_no (by omega)]
    clear hK hnp hnb hst
    go_enter Try.func11, Try.ntmps11
    go_wp2_with fail
    refine (HP.out _).mono ?_
    rintro e w1 ⟨rfl, rfl⟩
    go_wp2_with fail
    go_ret
    exact ⟨rfl, (Below.refl _ _).alloc (Nat.le_refl _) _⟩

set_option maxHeartbeats 1000000 in
theorem toPlan_any (ap : Option Addr) (np cp : Nat) (ab : Option Addr) (nb cb : Nat) (ps : List Pl) (bs : List Bk) (w : World) (hnp : np = ps.length) (hnb : nb = bs.length) (hP : RowG KPl w ap ps) (hK : RowG KBk w ab bs) (hl : np ≤ 1048576) (hl' : nb ≤ 1048576) :
    Calls Try.prog 13 #[.agg #[.slice ap np cp, .slice ab nb cb]] w fun e w' => ∃ g h, e = .returned (.agg #[.slice (some ⟨g, 0, none⟩) np np, .slice (some ⟨h, 0, none⟩) nb nb]) ∧ OwnG KPl 48 w' w.heap.size (.slice (some ⟨g, 0, none⟩) np np) ps ∧ OwnG KBk 56 w' w.heap.size (.slice (some ⟨h, 0, none⟩) nb nb) bs ∧ g ≠ h ∧ Below w.heap.size w w' := by
  have HTP := hidP (fun W h => toPoolS_any ap np cp ps W hnp (hP.later h) hl)
  have HTB := hidP (fun W h => toBlockS_any ab nb cb bs W hnb (hK.later h) hl')
  clear hP hK hnp hnb
  go_enter Try.func13, Try.ntmps13
  go_wp2_with fail
  refine (HTP.out _ ?_).mono ?_
  · repeat (first | with_reducible exact Below.refl _ _ | (with_reducible refine Below.drew ?_) | (with_reducible refine Below.alloc ?_ ?_ _; rotate_left; (focus (first | omega | (simp; omega) | (simp; done)))) | (with_reducible refine Below.setCell ?_ ?_ _; rotate_left; (focus (first | omega | (simp; omega) | (simp; done)))))
  rintro e w1 ⟨g, rfl, og, hb1⟩
  have hz1 := hb1.size
  try simp at hz1
  have hgl := OwnG.lt og g rfl
  try simp at hgl
  have f10 : w.heap.size < w1.heap.size := by omega
  have f11 : w.heap.size + 1 < w1.heap.size := by omega
  have f12 : w.heap.size + 2 < w1.heap.size := by omega
  refine olds_k (w.heap.size + 3) hb1 ?_ ?_
  · first | omega | (simp; omega) | (simp; done)
  intro hc1 hf1
  have OG := hidP og
  clear og
  go_wp2_with fail
  refine (HTB.out _ ?_).mono ?_
  · repeat (first | with_reducible exact Below.refl _ _ | (with_reducible refine Below.drew ?_) | (with_reducible refine Below.alloc ?_ ?_ _; rotate_left; (focus (first | omega | (simp; omega) | (simp; done)))) | (with_reducible refine Below.setCell ?_ ?_ _; rotate_left; (focus (first | omega | (simp; omega) | (simp; done)))) | (with_reducible refine Below.trans ?_ (hb1.mono ?_); rotate_left; (focus (first | omega | (simp; omega) | (simp; done)))))
  rintro e w2 ⟨h, rfl, oh, hb2⟩
  have hz2 := hb2.size
  try simp at hz2
  have hhl := OwnG.lt oh h rfl
  try simp at hhl
  have f20 : w.heap.size < w2.heap.size := by omega
  have f21 : w.heap.size + 1 < w2.heap.size := by omega
  have f22 : w.heap.size + 2 < w2.heap.size := by omega
  refine olds_k (w1.heap.size) hb2 ?_ ?_
  · first | omega | (simp; omega) | (simp; done)
  intro hc2 hf2
  have OH := hidP oh
  clear oh
  have OG2 := hidP ((OwnG.grown OG.out (grown_cellG w1 (w.heap.size + 2) 0 (.slice (some ⟨g, 0, none⟩) np np)) (fun k hk => by simp [Value.ownBlock] at hk; subst hk; intro hh; simp at hh; omega)).later hb2)
  have hgh : g ≠ h := by omega
  have q0 : w2.cell? ⟨w.heap.size + 1, 0, none⟩ = some (.slice none 0 0) := by rw [hc2 _ _ f11]; simp [go_sem, hc1]
  have q1 : w2.cell? ⟨w.heap.size + 1, 1, none⟩ = some (.slice none 0 0) := by rw [hc2 _ _ f11]; simp [go_sem, hc1]
  go_wp2_with fail
  refine bodyPost_ret (v := .agg #[.slice (some ⟨g, 0, none⟩) np np, .slice (some ⟨h, 0, none⟩) nb nb]) (by simp [results, Try.results13, go_sem, q0, q1]) rfl ⟨g, h, rfl, ?_, ?_, hgh, ?_⟩
  · have o1 := OwnG.grown OG2.out (grown_cellG w2 (w.heap.size + 1 + 1) 1 (.slice (some ⟨h, 0, none⟩) nb nb)) (fun k hk => by simp [Value.ownBlock] at hk; subst hk; intro hh; simp at hh; omega)
    have o2 := OwnG.grown o1 (grown_cellG _ (w.heap.size + 1) 0 (.slice (some ⟨g, 0, none⟩) np np)) (fun k hk => by simp [Value.ownBlock] at hk; subst hk; intro hh; simp at hh; omega)
    have o3 := OwnG.grown o2 (grown_cellG _ (w.heap.size + 1) 1 (.slice (some ⟨h, 0, none⟩) nb nb)) (fun k hk => by simp [Value.ownBlock] at hk; subst hk; intro hh; simp at hh; omega)
    exact o3.mono (by simp; omega)
  · have o1 := OwnG.grown OH.out (grown_cellG w2 (w.heap.size + 1 + 1) 1 (.slice (some ⟨h, 0, none⟩) nb nb)) (fun k hk => by simp [Value.ownBlock] at hk; subst hk; intro hh; simp at hh; omega)
    have o2 := OwnG.grown o1 (grown_cellG _ (w.heap.size + 1) 0 (.slice (some ⟨g, 0, none⟩) np np)) (fun k hk => by simp [Value.ownBlock] at hk; subst hk; intro hh; simp at hh; omega)
    have o3 := OwnG.grown o2 (grown_cellG _ (w.heap.size + 1) 1 (.slice (some ⟨h, 0, none⟩) nb nb)) (fun k hk => by simp [Value.ownBlock] at hk; subst hk; intro hh; simp at hh; omega)
    exact o3.mono (by simp; omega)
  · repeat (first | with_reducible exact Below.refl _ _ | (with_reducible refine Below.drew ?_) | (with_reducible refine Below.alloc ?_ ?_ _; rotate_left; (focus (first | omega | (simp; omega) | (simp; done)))) | (with_reducible refine Below.setCell ?_ ?_ _; rotate_left; (focus (first | omega | (simp; omega) | (simp; done)))) | (with_reducible refine Below.trans ?_ (hb2.mono ?_); rotate_left; (focus (first | omega | (simp; omega) | (simp; done)))) | (with_reducible refine Below.trans ?_ (hb1.mono ?_); rotate_left; (focus (first | omega | (simp; omega) | (simp; done)))))

set_option maxHeartbeats 1000000 in
theorem eqPlan_same (ap ap' : Option Addr) (np cp cp' : Nat) (ab ab' : Option Addr) (nb cb cb' : Nat) (ps : List Pl) (bs : List Bk) (w : World) (hnp : np = ps.length) (hnb : nb = bs.length) (hP : RowG KPl w ap ps) (hP' : RowG KPl w ap' ps) (hK : RowG KBk w ab bs) (hK' : RowG KBk w ab' bs) (hl : np ≤ 9000000000) (hl' : nb ≤ 9000000000) :
    Calls Try.prog 15 #[.agg #[.slice ap np cp, .slice ab nb cb], .agg #[.slice ap' np cp', .slice ab' nb cb']] w fun e w' => e = .returned (.bool true) ∧ Below w.heap.size w w' := by
  have HTP := hidP (fun W h => eqPoolS_same ap ap' np cp cp' ps W hnp (hP.later h) (hP'.later h) hl)
  have HTB := hidP (fun W h => eqBlockS_same ab ab' nb cb cb' bs W hnb (hK.later h) (hK'.later h) hl')
  clear hP hP' hK hK' hnp hnb
  go_enter Try.func15, Try.ntmps15
  go_wp2_with fail
  refine (HTP.out _ ?_).mono ?_
  · repeat (first | with_reducible exact Below.refl _ _ | (with_reducible refine Below.drew ?_) | (with_reducible refine Below.alloc ?_ ?_ _; rotate_left; (focus (first | omega | (simp; omega) | (simp; done)))) | (with_reducible refine Below.setCell ?_ ?_ _; rotate_left; (focus (first | omega | (simp; omega) | (simp; done)))))
  rintro e w1 ⟨rfl, hb1⟩
  have hz1 := hb1.size
  try simp at hz1
  have f10 : w.heap.size < w1.heap.size := by omega
  have f11 : w.heap.size + 1 < w1.heap.size := by omega
  refine olds_k (w.heap.size + 2) hb1 ?_ ?_
  · first | omega | (simp; omega) | (simp; done)
  intro hc1 hf1
  go_wp2_with fail
  refine (HTB.out _ ?_).mono ?_
  · repeat (first | with_reducible exact Below.refl _ _ | (with_reducible refine Below.drew ?_) | (with_reducible refine Below.alloc ?_ ?_ _; rotate_left; (focus (first | omega | (simp; omega) | (simp; done)))) | (with_reducible refine Below.setCell ?_ ?_ _; rotate_left; (focus (first | omega | (simp; omega) | (simp; done)))) | (with_reducible refine Below.trans ?_ (hb1.mono ?_); rotate_left; (focus (first | omega | (simp; omega) | (simp; done)))))
  rintro e w2 ⟨rfl, hb2⟩
  go_wp2_with fail
  go_ret
  refine ⟨rfl, ?_⟩
  repeat (first | with_reducible exact Below.refl _ _ | (with_reducible refine Below.drew ?_) | (with_reducible refine Below.alloc ?_ ?_ _; rotate_left; (focus (first | omega | (simp; omega) | (simp; done)))) | (with_reducible refine Below.setCell ?_ ?_ _; rotate_left; (focus (first | omega | (simp; omega) | (simp; done)))) | (with_reducible refine Below.trans ?_ (hb2.mono ?_); rotate_left; (focus (first | omega | (simp; omega) | (simp; done)))) | (with_reducible refine Below.trans ?_ (hb1.mono ?_); rotate_left; (focus (first | omega | (simp; omega) | (simp; done)))))

end Go.Proofs.Ythbpehpnikknlaa

namespace Go.Proofs.Ythbpehpnikknlaa
open Go.RowKit

set_option maxHeartbeats 1000000 in
theorem sPlanOk_any (ap : Option Addr) (np cp : Nat) (ab : Option Addr) (nb cb : Nat) (ps : List Pl) (bs : List Bk) (w : World) (hnp : np = ps.length) (hnb : nb = bs.length) (hP : RowG KPl w ap ps) (hK : RowG KBk w ab bs) (hlp : np ≤ 9000000000) (hl : nb ≤ 9000000000) (hst : ∀ q ∈ bs, q.t.size ≤ 9223372036854775807) :
    Calls Try.prog 12 #[.agg #[.slice ap np cp, .slice ab nb cb]] w fun e w' => e = .returned (.bool (planB ps bs)) ∧ Below w.heap.size w w' := by
  by_cases h1 : np ≤ 20
  · by_cases h2 : nb ≤ 60
    · have hv : planB ps bs = (poolsF none ps && blocksS ps none bs) := by
        unfold planB
        rw [decide_eq_true (hnp ▸ h1), decide_eq_true (hnb ▸ h2), Bool.true_and, Bool.true_and]
        cases hp : poolsF none ps
        · rfl
        · rw [Bool.true_and, Bool.true_and]
          exact (blocks_same (pools_dsj ps none (fun _ h => by cases h) hp).1 bs none (fun _ h => by cases h)).symm
      rw [hv]
      exact sPlanOk_core ap np cp ab nb cb ps bs w hnp hnb hP hK h1 h2 hst
    · have hv : planB ps bs = false := by
        unfold planB
        rw [decide_eq_false (hnb ▸ h2 : ¬ bs.length ≤ 60), Bool.and_false, Bool.false_and]
      rw [hv]
      have g1 : decide ((20 : Int) < (np : Int)) = false := decide_eq_false (by omega)
      have g2 : decide ((60 : Int) < (nb : Int)) = true := decide_eq_true (by omega)
      clear hP hK hnp hnb hst hv
      go_enter Try.func12, Try.ntmps12
      go_wp2_with fail
      go_ret
      exact ⟨rfl, (Below.refl _ _).alloc (Nat.le_refl _) _⟩
  · have hv : planB ps bs = false := by
      unfold planB
      rw [decide_eq_false (hnp ▸ h1 : ¬ ps.length ≤ 20), Bool.false_and, Bool.false_and]
    rw [hv]
    have g1 : decide ((20 : Int) < (np : Int)) = true := decide_eq_true (by omega)
    clear hP hK hnp hnb hst hv
    go_enter Try.func12, Try.ntmps12
    go_wp2_with fail
    go_ret
    exact ⟨rfl, (Below.refl _ _).alloc (Nat.le_refl _) _⟩

end Go.Proofs.Ythbpehpnikknlaa

namespace Go.Proofs.Ythbpehpnikknlaa
open Go.RowKit

/-- The figures of k ahead of out. -/
def mtR (k : Nat) (out : ByteArray) : ByteArray := if _h : k = 0 then out else mtR (k / 10) (strOfNums [48 + (k : Int) % 10] ++ out)
  termination_by k
  decreasing_by omega
theorem mtR_zero (out : ByteArray) : mtR 0 out = out := by unfold mtR; rw [dif_pos rfl]
theorem mtR_step {k : Nat} (h : k ≠ 0) (out : ByteArray) : mtR k out = mtR (k / 10) (strOfNums [48 + (k : Int) % 10] ++ out) := by conv => lhs; unfold mtR; rw [dif_neg h]
def mtT (k : Nat) : ByteArray := ⟨#[109]⟩ ++ mtR k ⟨#[]⟩
theorem ret_ba9 {a b : ByteArray} (h : a = b) : Ending.returned (.string a) = .returned (.string b) := by rw [h]
theorem ba_size (a b : ByteArray) : (a ++ b).size = a.size + b.size := by simp

theorem cvt1 (w : World) (c : Int) : (convert 120 9 (.slice (some ⟨w.heap.size, 0, none⟩) 1 1)).run Try.prog (w.alloc (.cells #[.int .u8 c] 5)) = .ok (.string (strOfNums [c])) (w.alloc (.cells #[.int .u8 c] 5)) :=
  run_convert_bytes_arg _ 120 5 Try.underlying120 Try.underlying5 w.heap.size 0 1 1 [c] rfl (by
    intro i hi
    have : i = 0 := by omega
    subst this
    simp [go_sem]) 9 Try.underlying9

set_option maxHeartbeats 1000000 in
theorem markText_any (k : Nat) (hk : 0 < k) (h9 : k ≤ 90000000000) (w : World) :
    Calls Try.prog 87 #[.int .i64 k] w fun e w' => e = .returned (.string (mtT k)) ∧ Below w.heap.size w w' := by
  have d1 : decide ((k : Int) ≤ 0) = false := decide_eq_false (by omega)
  go_enter Try.func87, Try.ntmps87
  go_wp2_with fail
  go_loopw [0, 3] (fun t0 t3 wr => ∃ (J : Int) (m : Nat) (out : ByteArray), t0 = .int .i64 J ∧ t3 = .string out ∧ 0 ≤ J ∧ J ≤ 90000000000 ∧ J.toNat < 10 ^ m ∧ out.size + m ≤ 20 ∧ mtR k ⟨#[]⟩ = mtR J.toNat out ∧ Below w.heap.size w wr) (fun t0 _ _ => (intOf t0).toNat)
  case atStart => exact ⟨k, 19, ⟨#[]⟩, rfl, rfl, by omega, by omega, by omega, by show 0 + 19 ≤ 20; omega, rfl, Below.refl _ _⟩
  case round =>
    obtain ⟨J, m, out, rfl, rfl, hJ0, hj9, hjm, hsz, heq, hbel⟩ := hrel
    have HM := hidP (And.intro hjm hsz)
    have hsz2 : out.size ≤ 20 := by omega
    clear hjm hsz
    by_cases h0 : J = 0
    · subst h0
      have HE : Hid (mtR k ⟨#[]⟩ = out) := hidP (heq.trans (mtR_zero out))
      have HB := hidP hbel
      clear heq hbel
      go_wp2_with fail
      go_ret
      exact ⟨ret_ba9 (by unfold mtT; rw [HE.out]), HB.out⟩
    · have g1 : decide ((0 : Int) < J) = true := decide_eq_true (by omega)
      have hst := mtR_step (k := J.toNat) (by omega) out
      rw [show ((J.toNat : Nat) : Int) = J by omega] at hst
      rw [hst] at heq
      clear hst
      have HE := hidP heq
      have HB := hidP hbel
      have hcv := cvt1 wr (48 + J % 10)
      have hw8 : IntKind.u8.wrap (48 + J % 10) = 48 + J % 10 := by simp [IntKind.wrap, IntKind.bits, IntKind.signed]; omega
      have hss : (strOfNums [48 + J % 10]).size = 1 := rfl
      clear heq hbel
      have HJ := hidP (And.intro hJ0 hj9)
      go_wp2_with fail
      go_roundw
      case rel =>
        have h10 : (J / 10).toNat = J.toNat / 10 := by have := HJ.out; omega
        have hm : m ≠ 0 := by
          intro h; have h1 := HM.out.1; rw [h] at h1; have h2 := HJ.out; omega
        refine ⟨J / 10, m - 1, _, rfl, rfl, by have := HJ.out; omega, by have := HJ.out; omega, ?_, ?_, ?_, HB.out.alloc HB.out.size _⟩
        · rw [h10]
          apply Nat.div_lt_of_lt_mul
          have := HM.out.1
          rw [show m = (m - 1) + 1 by omega, Nat.pow_succ, Nat.mul_comm] at this
          exact this
        · rw [ba_size, hss]; have := HM.out.2; omega
        · rw [h10]; exact HE.out
      case measure => simp [intOf]; have := HJ.out; omega

theorem markText_int (J : Int) (h0 : 0 < J) (h9 : J ≤ 90000000000) (w : World) :
    Calls Try.prog 87 #[.int .i64 J] w fun e w' => e = .returned (.string (mtT J.toNat)) ∧ Below w.heap.size w w' := by
  have := markText_any J.toNat (by omega) (by omega) w
  rw [show ((J.toNat : Nat) : Int) = J by omega] at this
  exact this

end Go.Proofs.Ythbpehpnikknlaa

namespace Go.Proofs.Ythbpehpnikknlaa
open Go.RowKit

/-- The marks of the j-th pool, and of the j-th block. -/
def mkPl (k : Int) (j : Nat) : Pl := ⟨⟨(k + 5 * (j : Int)) % 3 == 0, BitVec.ofInt 64 (k + 5 * (j : Int) + 1), BitVec.ofInt 64 (k + 5 * (j : Int) + 1 + 1), k + 5 * (j : Int) + 1 + 1 + 1⟩, k + 5 * (j : Int) + 1 + 1 + 1 + 1⟩
def mkBk (k : Int) (j : Nat) : Bk := ⟨⟨(k + 5 * (j : Int)) % 3 == 0, BitVec.ofInt 64 (k + 5 * (j : Int) + 1), BitVec.ofInt 64 (k + 5 * (j : Int) + 1 + 1), k + 5 * (j : Int) + 1 + 1 + 1⟩, mtT (k + 5 * (j : Int) + 1 + 1 + 1 + 1).toNat⟩
theorem ownsRow_later {w w' : World} {B k n : Nat} {t : TypeId} {v : Value} {xs : List Value} (h : w.ownsRow B t k v n xs) (hb : Below w.heap.size w w') : w'.ownsRow B t k v n xs := by
  refine ⟨h.1, ?_⟩
  rcases h.2 with h' | ⟨g, c, cur, h1, h2, h3, h4⟩
  · exact Or.inl h'
  · refine Or.inr ⟨g, c, cur, h1, h2, ?_, h4⟩
    have hg : g < w.heap.size := by
      rcases Nat.lt_or_ge g w.heap.size with h' | h'
      · exact h'
      · rw [Array.getElem?_eq_none h'] at h3; cases h3
    exact (hb.block g hg).trans h3
theorem grown_of {w w' : World} (h : Below w.heap.size w w') (r : Option Nat) : w.grownBy w' r := ⟨h.os, h.tape, h.output, h.size, fun k hk _ => h.block k hk⟩

set_option maxHeartbeats 2000000 in
theorem markPoolS_any (a : Option Addr) (n cap B : Nat) (ps : List Pl) (k : Int) (w : World) (hn : n = ps.length) (h : OwnG KPl 48 w B (.slice a n cap) ps) (hl : n ≤ 9000000000) (k0 : 0 < k) (k1 : k ≤ 9000000000) :
    Calls Try.prog 56 #[.slice a n cap, .int .i64 k] w fun e w' => e = .returned (.int .i64 (k + 5 * n)) ∧ OwnG KPl 48 w' B (.slice a n cap) (mksG (mkPl k) n) ∧ w.grownBy w' (Value.slice a n cap).ownBlock := by
  have hn' : ps.length = n := hn.symm
  clear hn
  by_cases h0 : n = 0
  · subst h0
    have HO := hidP h
    have HZ : Hid (ps = []) := List.length_eq_zero_iff.1 hn'
    clear h hn'
    go_enter Try.func56, Try.ntmps56
    go_wp2
    refine wp_loop_rounds 1 ?_
    rw [rounds_succ]
    go_wp2
    go_ret
    refine ⟨by simp, ?_, World.grownBy.refl _ _⟩
    have := HO.out; rw [HZ.out] at this; simpa [mksG] using this
  · obtain ⟨g, rfl⟩ : ∃ g, a = some ⟨g, 0, none⟩ := by
      rcases h.2 with ⟨hv, _⟩ | ⟨g, cap', cur, hv, _⟩
      · simp at hv; omega
      · simp at hv; exact ⟨g, hv.1⟩
    have HO : Hid (OwnG KPl 48 w B (.slice (some ⟨g, 0, none⟩) n cap) (mksG (mkPl k) 0 ++ ps.drop 0)) := by
      refine hidP ?_; simpa [mksG] using h
    have HN : Hid (ps.length = n) := hn'
    clear h hn'
    go_enter Try.func56, Try.ntmps56
    go_wp2
    go_loopw [1, 5] (fun t1 t5 wr => ∃ i : Nat, i ≤ n ∧ t5 = .int .i64 i ∧ t1 = .int .i64 (k + 5 * i) ∧ OwnG KPl 48 wr B (.slice (some ⟨g, 0, none⟩) n cap) (mksG (mkPl k) i ++ ps.drop i) ∧ w.grownBy wr (some g)) (fun _ t5 _ => n - (intOf t5).toNat)
    case atStart => exact ⟨0, Nat.zero_le _, rfl, by simp, HO.out, World.grownBy.refl _ _⟩
    case round =>
      obtain ⟨i, hi, rfl, rfl, hown, hgr⟩ := hrel
      have hlen : n = (mksG (mkPl k) i ++ ps.drop i).length := by rw [List.length_append, mksG_len, List.length_drop, HN.out]; omega
      by_cases hlt : i < n
      · obtain ⟨f0, f1, f2, f3, f4⟩ := frzPl hown i
        have e1 : (mkPl k i).p.H.toInt = k + 5 * (i : Int) + 1 := toI64 _ (by omega) (by omega)
        have e2 : (mkPl k i).p.L.toInt = k + 5 * (i : Int) + 1 + 1 := toI64 _ (by omega) (by omega)
        have e3 : (mkPl k i).p.b = k + 5 * (i : Int) + 1 + 1 + 1 := rfl
        have e0 : (mkPl k i).p.s = ((k + 5 * (i : Int)) % 3 == 0) := rfl
        have e4 : (mkPl k i).n = k + 5 * (i : Int) + 1 + 1 + 1 + 1 := rfl
        have hput' := putPl hown hlen i hlt (mkPl k i)
        rw [mksG_step (mkPl k) n i ps HN.out hlt, e0, e1, e2, e3, e4] at hput'
        clear e0 e1 e2 e3 e4
        obtain ⟨q', hp', _, c0, c1, c2, c3, c4⟩ := rowPl0 hown i (by rw [← hlen]; exact hlt)
        have HS := hidP hput'
        have HG := hidP hgr
        clear hown hgr HO hput' hlen
        go_wp2_with fail
        go_roundw
        case rel => exact ⟨i + 1, by omega, by go_num, by go_num, HS.out, ((((HG.out.trans (grown_cell _ g _ _)).trans (grown_cell _ g _ _)).trans (grown_cell _ g _ _)).trans (grown_cell _ g _ _)).trans (grown_cell _ g _ _)⟩
        case measure => simp [intOf]; omega
      · have hin : i = n := by omega
        subst hin
        have HS : Hid (OwnG KPl 48 wr B (.slice (some ⟨g, 0, none⟩) i cap) (mksG (mkPl k) i)) := by
          rw [List.drop_of_length_le (by rw [HN.out]; exact Nat.le_refl _), List.append_nil] at hown
          exact hidP hown
        have HG := hidP hgr
        clear hown hgr HO hlen
        go_wp2
        go_ret
        exact ⟨rfl, HS.out, HG.out⟩

set_option maxRecDepth 10000 in
set_option maxHeartbeats 1000000 in
theorem heldPoolS_any (a : Option Addr) (cap n : Nat) (k : Int) (w : World) (h : RowG KPl w a (mksG (mkPl k) n)) (hl : n ≤ 9000000000) (k0 : 0 < k) (k1 : k ≤ 9000000000) :
    Calls Try.prog 58 #[.slice a n cap, .int .i64 k] w fun e w' => e = .returned (.int .i64 (k + 5 * n)) ∧ Below w.heap.size w w' := by
  have HB := hidP h
  clear h
  go_enter Try.func58, Try.ntmps58
  go_wp2
  go_loopw [1, 5] (fun t1 t5 wr => ∃ i : Nat, i ≤ n ∧ t5 = .int .i64 i ∧ t1 = .int .i64 (k + 5 * i) ∧ Below w.heap.size w wr) (fun _ t5 _ => n - (intOf t5).toNat)
  case atStart => exact ⟨0, Nat.zero_le _, rfl, by simp, Below.refl _ _⟩
  case round =>
    obtain ⟨i, hi, rfl, rfl, hbel⟩ := hrel
    have HBel := hidP hbel
    by_cases hlt : i < n
    · obtain ⟨p, o, q, rfl, hp, hq, c0, c1, c2, c3, c4⟩ := rowPl HB.out i (by rw [mksG_len]; exact hlt)
      rw [mksG_at (mkPl k) n i hlt] at hq
      cases hq
      have e1 : (mkPl k i).p.H.toInt = k + 5 * (i : Int) + 1 := toI64 _ (by omega) (by omega)
      have e2 : (mkPl k i).p.L.toInt = k + 5 * (i : Int) + 1 + 1 := toI64 _ (by omega) (by omega)
      have d0 : wr.cell? ⟨p, o + i * 5, none⟩ = some (.bool ((k + 5 * (i : Int)) % 3 == 0)) := (hbel.cell hp).trans c0
      have d1 : wr.cell? ⟨p, o + i * 5 + 1, none⟩ = some (.int .i64 (k + 5 * (i : Int) + 1)) := by rw [← e1]; exact (hbel.cell hp).trans c1
      have d2 : wr.cell? ⟨p, o + i * 5 + 2, none⟩ = some (.int .i64 (k + 5 * (i : Int) + 1 + 1)) := by rw [← e2]; exact (hbel.cell hp).trans c2
      have d3 : wr.cell? ⟨p, o + i * 5 + 3, none⟩ = some (.int .i64 (k + 5 * (i : Int) + 1 + 1 + 1)) := (hbel.cell hp).trans c3
      have d4 : wr.cell? ⟨p, o + i * 5 + 4, none⟩ = some (.int .i64 (k + 5 * (i : Int) + 1 + 1 + 1 + 1)) := (hbel.cell hp).trans c4
      have dL : p < wr.heap.size := Nat.lt_of_lt_of_le hp hbel.size
      clear e1 e2 c0 c1 c2 c3 c4 hbel
      go_wp2
      go_roundw
      case rel => exact ⟨i + 1, by omega, by go_num, by go_num, HBel.out⟩
      case measure => simp [intOf]; omega
    · have hin : i = n := by omega
      subst hin
      clear hbel
      go_wp2
      go_ret
      exact ⟨rfl, HBel.out⟩

set_option maxHeartbeats 2000000 in
theorem markBlockS_any (a : Option Addr) (n cap B : Nat) (ps : List Bk) (k : Int) (w : World) (hn : n = ps.length) (h : OwnG KBk 56 w B (.slice a n cap) ps) (hl : n ≤ 9000000000) (k0 : 0 < k) (k1 : k ≤ 9000000000) :
    Calls Try.prog 57 #[.slice a n cap, .int .i64 k] w fun e w' => e = .returned (.int .i64 (k + 5 * n)) ∧ OwnG KBk 56 w' B (.slice a n cap) (mksG (mkBk k) n) ∧ w.grownBy w' (Value.slice a n cap).ownBlock := by
  have hn' : ps.length = n := hn.symm
  clear hn
  by_cases h0 : n = 0
  · subst h0
    have HO := hidP h
    have HZ : Hid (ps = []) := List.length_eq_zero_iff.1 hn'
    clear h hn'
    go_enter Try.func57, Try.ntmps57
    go_wp2
    refine wp_loop_rounds 1 ?_
    rw [rounds_succ]
    go_wp2
    go_ret
    refine ⟨by simp, ?_, World.grownBy.refl _ _⟩
    have := HO.out; rw [HZ.out] at this; simpa [mksG] using this
  · obtain ⟨g, rfl⟩ : ∃ g, a = some ⟨g, 0, none⟩ := by
      rcases h.2 with ⟨hv, _⟩ | ⟨g, cap', cur, hv, _⟩
      · simp at hv; omega
      · simp at hv; exact ⟨g, hv.1⟩
    have HO : Hid (OwnG KBk 56 w B (.slice (some ⟨g, 0, none⟩) n cap) (mksG (mkBk k) 0 ++ ps.drop 0)) := by
      refine hidP ?_; simpa [mksG] using h
    have HN : Hid (ps.length = n) := hn'
    clear h hn'
    go_enter Try.func57, Try.ntmps57
    go_wp2
    go_loopw [1, 5] (fun t1 t5 wr => ∃ i : Nat, i ≤ n ∧ t5 = .int .i64 i ∧ t1 = .int .i64 (k + 5 * i) ∧ OwnG KBk 56 wr B (.slice (some ⟨g, 0, none⟩) n cap) (mksG (mkBk k) i ++ ps.drop i) ∧ w.grownBy wr (some g)) (fun _ t5 _ => n - (intOf t5).toNat)
    case atStart => exact ⟨0, Nat.zero_le _, rfl, by simp, HO.out, World.grownBy.refl _ _⟩
    case round =>
      obtain ⟨i, hi, rfl, rfl, hown, hgr⟩ := hrel
      have hlen : n = (mksG (mkBk k) i ++ ps.drop i).length := by rw [List.length_append, mksG_len, List.length_drop, HN.out]; omega
      by_cases hlt : i < n
      · obtain ⟨f0, f1, f2, f3, f4⟩ := frzBk hown i
        have e1 : (mkBk k i).p.H.toInt = k + 5 * (i : Int) + 1 := toI64 _ (by omega) (by omega)
        have e2 : (mkBk k i).p.L.toInt = k + 5 * (i : Int) + 1 + 1 := toI64 _ (by omega) (by omega)
        have e3 : (mkBk k i).p.b = k + 5 * (i : Int) + 1 + 1 + 1 := rfl
        have e0 : (mkBk k i).p.s = ((k + 5 * (i : Int)) % 3 == 0) := rfl
        have hcs : KBk.cs (mkBk k i) = [.bool ((k + 5 * (i : Int)) % 3 == 0), .int .i64 (k + 5 * (i : Int) + 1), .int .i64 (k + 5 * (i : Int) + 1 + 1), .int .i64 (k + 5 * (i : Int) + 1 + 1 + 1)] ++ [.string (mtT (k + 5 * (i : Int) + 1 + 1 + 1 + 1).toNat)] := by
          show ([.bool (mkBk k i).p.s, .int .i64 (mkBk k i).p.H.toInt, .int .i64 (mkBk k i).p.L.toInt, .int .i64 (mkBk k i).p.b, .string (mkBk k i).t] : List Value) = _
          rw [e0, e1, e2, e3]; rfl
        have hfl := gflat_set KBk (mksG (mkBk k) i ++ ps.drop i) i (mkBk k i) (by rw [← hlen]; exact hlt)
        rw [mksG_step (mkBk k) n i ps HN.out hlt, hcs] at hfl
        have hlen2 : (mksG (mkBk k) (i + 1) ++ ps.drop (i + 1)).length = n := by rw [List.length_append, mksG_len, List.length_drop, HN.out]; omega
        have hraw : wr.ownsRow B 56 5 (.slice (some ⟨g, 0, none⟩) n cap) n (gflat KBk (mksG (mkBk k) i ++ ps.drop i)) := by
          have := hown; unfold OwnG at this; rw [← hlen] at this; exact this
        have h4 := puts_own [.bool ((k + 5 * (i : Int)) % 3 == 0), .int .i64 (k + 5 * (i : Int) + 1), .int .i64 (k + 5 * (i : Int) + 1 + 1), .int .i64 (k + 5 * (i : Int) + 1 + 1 + 1)] wr _ (i * 5) hraw
        obtain ⟨q', hp', _, c0, c1, c2, c3, c4⟩ := rowBk0 hown i (by rw [← hlen]; exact hlt)
        have c4' := World.ownsRow.cellAt h4 (i * 5 + 4) (by omega)
        have HF := hidP hfl
        have H4 := hidP h4
        have HL2 := hidP hlen2
        have HG := hidP hgr
        have HM := hidP (markText_int (k + 5 * (i : Int) + 1 + 1 + 1 + 1) (by omega) (by omega))
        have F4 := hidP (fun (w2 : World) (hb : Below ((((wr.setCell ⟨g, i * 5, none⟩ (.bool ((k + 5 * (i : Int)) % 3 == 0))).setCell ⟨g, i * 5 + 1, none⟩ (.int .i64 (k + 5 * (i : Int) + 1))).setCell ⟨g, i * 5 + 2, none⟩ (.int .i64 (k + 5 * (i : Int) + 1 + 1))).setCell ⟨g, i * 5 + 3, none⟩ (.int .i64 (k + 5 * (i : Int) + 1 + 1 + 1))).heap.size ((((wr.setCell ⟨g, i * 5, none⟩ (.bool ((k + 5 * (i : Int)) % 3 == 0))).setCell ⟨g, i * 5 + 1, none⟩ (.int .i64 (k + 5 * (i : Int) + 1))).setCell ⟨g, i * 5 + 2, none⟩ (.int .i64 (k + 5 * (i : Int) + 1 + 1))).setCell ⟨g, i * 5 + 3, none⟩ (.int .i64 (k + 5 * (i : Int) + 1 + 1 + 1))) w2) => And.intro (World.ownsRow.stored (ownsRow_later (show ((((wr.setCell ⟨g, i * 5, none⟩ (.bool ((k + 5 * (i : Int)) % 3 == 0))).setCell ⟨g, i * 5 + 1, none⟩ (.int .i64 (k + 5 * (i : Int) + 1))).setCell ⟨g, i * 5 + 2, none⟩ (.int .i64 (k + 5 * (i : Int) + 1 + 1))).setCell ⟨g, i * 5 + 3, none⟩ (.int .i64 (k + 5 * (i : Int) + 1 + 1 + 1))).ownsRow B 56 5 (.slice (some ⟨g, 0, none⟩) n cap) n _ from h4) hb) (i * 5 + 4) (.string (mtT (k + 5 * (i : Int) + 1 + 1 + 1 + 1).toNat))).1 (World.ownsRow.frozenAt (ownsRow_later (show ((((wr.setCell ⟨g, i * 5, none⟩ (.bool ((k + 5 * (i : Int)) % 3 == 0))).setCell ⟨g, i * 5 + 1, none⟩ (.int .i64 (k + 5 * (i : Int) + 1))).setCell ⟨g, i * 5 + 2, none⟩ (.int .i64 (k + 5 * (i : Int) + 1 + 1))).setCell ⟨g, i * 5 + 3, none⟩ (.int .i64 (k + 5 * (i : Int) + 1 + 1 + 1))).ownsRow B 56 5 (.slice (some ⟨g, 0, none⟩) n cap) n _ from h4) hb) (i * 5 + 4)))
        have hg4 : g < ((((wr.setCell ⟨g, i * 5, none⟩ (.bool ((k + 5 * (i : Int)) % 3 == 0))).setCell ⟨g, i * 5 + 1, none⟩ (.int .i64 (k + 5 * (i : Int) + 1))).setCell ⟨g, i * 5 + 2, none⟩ (.int .i64 (k + 5 * (i : Int) + 1 + 1))).setCell ⟨g, i * 5 + 3, none⟩ (.int .i64 (k + 5 * (i : Int) + 1 + 1 + 1))).heap.size := by simp; exact hp'
        have c4s : ((((wr.setCell ⟨g, i * 5, none⟩ (.bool ((k + 5 * (i : Int)) % 3 == 0))).setCell ⟨g, i * 5 + 1, none⟩ (.int .i64 (k + 5 * (i : Int) + 1))).setCell ⟨g, i * 5 + 2, none⟩ (.int .i64 (k + 5 * (i : Int) + 1 + 1))).setCell ⟨g, i * 5 + 3, none⟩ (.int .i64 (k + 5 * (i : Int) + 1 + 1 + 1))).cell? ⟨g, i * 5 + 4, none⟩ = some (.string q'.t) := by simp [go_sem, c4]
        have C4 := hidP (And.intro hg4 c4s)
        clear hown hgr HO hlen e0 e1 e2 e3 hcs hfl hraw h4 hlen2 c4' hg4 c4s
        go_wp2_with fail
        refine (HM.out _).mono ?_
        rintro e w2 ⟨rfl, hb2⟩
        have c4t := (hb2.cell C4.out.1).trans C4.out.2
        have fz := (F4.out w2 hb2).2
        have HS := hidP (F4.out w2 hb2).1
        have HG2 := hidP (((((HG.out.trans (grown_cell _ g _ _)).trans (grown_cell _ g _ _)).trans (grown_cell _ g _ _)).trans (grown_cell _ g _ _)).trans (grown_of hb2 (some g)))
        clear hb2 F4
        go_wp2_with fail
        go_roundw
        case rel =>
          refine ⟨i + 1, by omega, by go_num, by go_num, ?_, HG2.out.trans (grown_cell _ g _ _)⟩
          unfold OwnG
          rw [HL2.out, ← HF.out]
          exact HS.out
        case measure => simp [intOf]; omega
      · have hin : i = n := by omega
        subst hin
        have HS : Hid (OwnG KBk 56 wr B (.slice (some ⟨g, 0, none⟩) i cap) (mksG (mkBk k) i)) := by
          rw [List.drop_of_length_le (by rw [HN.out]; exact Nat.le_refl _), List.append_nil] at hown
          exact hidP hown
        have HG := hidP hgr
        clear hown hgr HO hlen
        go_wp2
        go_ret
        exact ⟨rfl, HS.out, HG.out⟩

set_option maxRecDepth 10000 in
set_option maxHeartbeats 1000000 in
theorem heldBlockS_any (a : Option Addr) (cap n : Nat) (k : Int) (w : World) (h : RowG KBk w a (mksG (mkBk k) n)) (hl : n ≤ 9000000000) (k0 : 0 < k) (k1 : k ≤ 9000000000) :
    Calls Try.prog 59 #[.slice a n cap, .int .i64 k] w fun e w' => e = .returned (.int .i64 (k + 5 * n)) ∧ Below w.heap.size w w' := by
  have HB := hidP h
  clear h
  go_enter Try.func59, Try.ntmps59
  go_wp2
  go_loopw [1, 5] (fun t1 t5 wr => ∃ i : Nat, i ≤ n ∧ t5 = .int .i64 i ∧ t1 = .int .i64 (k + 5 * i) ∧ Below w.heap.size w wr) (fun _ t5 _ => n - (intOf t5).toNat)
  case atStart => exact ⟨0, Nat.zero_le _, rfl, by simp, Below.refl _ _⟩
  case round =>
    obtain ⟨i, hi, rfl, rfl, hbel⟩ := hrel
    have HBel := hidP hbel
    by_cases hlt : i < n
    · obtain ⟨p, o, q, rfl, hp, hq, c0, c1, c2, c3, c4⟩ := rowBk HB.out i (by rw [mksG_len]; exact hlt)
      rw [mksG_at (mkBk k) n i hlt] at hq
      cases hq
      have e1 : (mkBk k i).p.H.toInt = k + 5 * (i : Int) + 1 := toI64 _ (by omega) (by omega)
      have e2 : (mkBk k i).p.L.toInt = k + 5 * (i : Int) + 1 + 1 := toI64 _ (by omega) (by omega)
      have d0 : wr.cell? ⟨p, o + i * 5, none⟩ = some (.bool ((k + 5 * (i : Int)) % 3 == 0)) := (hbel.cell hp).trans c0
      have d1 : wr.cell? ⟨p, o + i * 5 + 1, none⟩ = some (.int .i64 (k + 5 * (i : Int) + 1)) := by rw [← e1]; exact (hbel.cell hp).trans c1
      have d2 : wr.cell? ⟨p, o + i * 5 + 2, none⟩ = some (.int .i64 (k + 5 * (i : Int) + 1 + 1)) := by rw [← e2]; exact (hbel.cell hp).trans c2
      have d3 : wr.cell? ⟨p, o + i * 5 + 3, none⟩ = some (.int .i64 (k + 5 * (i : Int) + 1 + 1 + 1)) := (hbel.cell hp).trans c3
      have d4 : wr.cell? ⟨p, o + i * 5 + 4, none⟩ = some (.string (mtT (k + 5 * (i : Int) + 1 + 1 + 1 + 1).toNat)) := (hbel.cell hp).trans c4
      have dL : p < wr.heap.size := Nat.lt_of_lt_of_le hp hbel.size
      clear e1 e2 c0 c1 c2 c3 c4 hbel
      have HM := hidP (markText_int (k + 5 * (i : Int) + 1 + 1 + 1 + 1) (by omega) (by omega))
      go_wp2_with fail
      have HSx : Hid (∀ x, Below wr.heap.size wr x → (x.cell? ⟨p, o + i * 5 + 4, none⟩ = some (.string (mtT (k + 5 * (i : Int) + 1 + 1 + 1 + 1).toNat)) ∧ Below wr.heap.size wr x)) := hidP fun x h =>
        ⟨(h.cell dL).trans d4, h⟩
      refine wp_region_held_drew (S := (fun x => x.cell? ⟨p, o + i * 5 + 4, none⟩ = some (.string (mtT (k + 5 * (i : Int) + 1 + 1 + 1 + 1).toNat)) ∧ Below wr.heap.size wr x)) (by kernel_rfl) ?_ (fun hHeld => ?_)
      · try dsimp only
        exact HSx.out _ (Below.refl _ _).drew
      refine wpAnyH_take (i := 0) (oi := ⟨some 57, _, _, _, _, _⟩) (v := ?_) rfl (by kernel_rfl) (by kernel_rfl) (by kernel_rfl) (fun _ _ _ h => h) (Or.inl ⟨by rfl, ?_⟩) (by assumption) ?_
      rotate_left
      · intro w hSw
        try dsimp only at hSw
        go_simp
        try with_reducible rfl
      simp only [Act.put, List.setIfInBounds_toArray, List.set_cons_zero, List.set_cons_succ]
      refine wpAnyH_take (i := 1) (oi := ⟨some 58, _, _, _, _, _⟩) (v := ?_) rfl (by kernel_rfl) (by kernel_rfl) (by kernel_rfl) (fun _ _ _ h => h) (Or.inl ⟨by rfl, ?_⟩) (by assumption) ?_
      rotate_left
      · intro w hSw
        try dsimp only at hSw
        go_simp
        try with_reducible rfl
      simp only [Act.put, List.setIfInBounds_toArray, List.set_cons_zero, List.set_cons_succ]
      refine wpAnyH_take (i := 2) (oi := ⟨some 59, _, _, _, _, _⟩) (v := ?_) rfl (by kernel_rfl) (by kernel_rfl) (by kernel_rfl) (fun _ _ _ h => h) (Or.inl ⟨by rfl, ?_⟩) (by assumption) ?_
      rotate_left
      · intro w hSw
        try dsimp only at hSw
        go_simp
        try with_reducible rfl
      simp only [Act.put, List.setIfInBounds_toArray, List.set_cons_zero, List.set_cons_succ]
      refine wpAnyH_take (i := 3) (oi := ⟨some 60, _, _, _, _, _⟩) (v := ?_) rfl (by kernel_rfl) (by kernel_rfl) (by kernel_rfl) (fun _ _ _ h => h) (Or.inl ⟨by rfl, ?_⟩) (by assumption) ?_
      rotate_left
      · intro w hSw
        try dsimp only at hSw
        go_simp
        try with_reducible rfl
      simp only [Act.put, List.setIfInBounds_toArray, List.set_cons_zero, List.set_cons_succ]
      refine wpAnyH_take (i := 4) (oi := ⟨some 61, _, _, _, _, _⟩) (v := ?_) rfl (by kernel_rfl) (by kernel_rfl) (by kernel_rfl) (fun _ _ _ h => h) (Or.inl ⟨by rfl, ?_⟩) (by assumption) ?_
      rotate_left
      · intro w hSw
        try dsimp only at hSw
        go_simp
        try with_reducible rfl
      simp only [Act.put, List.setIfInBounds_toArray, List.set_cons_zero, List.set_cons_succ]
      refine wpAnyH_take (i := 5) (oi := ⟨some 62, _, _, _, _, _⟩) (v := ?_) rfl (by kernel_rfl) (by kernel_rfl) (by kernel_rfl) (fun _ _ _ h => h) (Or.inl ⟨by rfl, ?_⟩) (by assumption) ?_
      rotate_left
      · intro w hSw
        try dsimp only at hSw
        go_simp
        try with_reducible rfl
      simp only [Act.put, List.setIfInBounds_toArray, List.set_cons_zero, List.set_cons_succ]
      refine wpAnyH_ready (rs := [6]) (by kernel_rfl) (by simp) ?_
      refine AllReadyH.cons rfl (fun K hK => ?_) AllReadyH.nil
      go_simp
      go_wp2_with (first | (go_at_call 87; refine (HM.out _).mono ?_; rintro e w2 ⟨rfl, hb2⟩; have b2 := (hHeld.2).trans (hb2.mono (hHeld.2).size)))
      refine hK.out _ _ ?_ (fun hHeld => ?_)
      · try dsimp only
        exact HSx.out _ b2
      clear hK K
      refine wpAnyH_take (i := 7) (oi := ⟨some 64, _, _, _, _, _⟩) (v := ?_) rfl (by kernel_rfl) (by kernel_rfl) (by kernel_rfl) (fun _ _ _ h => h) (Or.inl ⟨by rfl, ?_⟩) (by assumption) ?_
      rotate_left
      · intro w hSw
        try dsimp only at hSw
        go_simp
        try with_reducible rfl
      simp only [Act.put, List.setIfInBounds_toArray, List.set_cons_zero, List.set_cons_succ]
      have HE := hidP (hHeld.2)
      refine wpAnyH_done (by kernel_rfl) ?_ _
      clear hHeld
      go_wp2_with fail
      go_roundw
      case rel => exact ⟨i + 1, by omega, by go_num, by go_num, HBel.out.trans (HE.out.mono HBel.out.size)⟩
      case measure => simp [intOf]; omega
    · have hin : i = n := by omega
      subst hin
      clear hbel
      go_wp2
      go_ret
      exact ⟨rfl, HBel.out⟩

end Go.Proofs.Ythbpehpnikknlaa

namespace Go.Proofs.Ythbpehpnikknlaa
open Go.RowKit

set_option maxHeartbeats 1000000 in
theorem markPlan_any (ap : Option Addr) (np cp : Nat) (ab : Option Addr) (nb cb : Nat) (ps : List Pl) (bs : List Bk) (B : Nat) (k : Int) (w : World) (hnp : np = ps.length) (hnb : nb = bs.length) (hO1 : OwnG KPl 48 w B (.slice ap np cp) ps) (hO2 : OwnG KBk 56 w B (.slice ab nb cb) bs) (hne : ∀ k, (Value.slice ap np cp).ownBlock = some k → (Value.slice ab nb cb).ownBlock ≠ some k) (h1 : np ≤ 2000000) (h2 : nb ≤ 2000000) (k0 : 0 < k) (k1 : k ≤ 1000) :
    Calls Try.prog 19 #[.agg #[.slice ap np cp, .slice ab nb cb], .int .i64 k] w fun e w' => e = .returned (.int .i64 (k + 5 * np + 5 * nb)) ∧ OwnG KPl 48 w' B (.slice ap np cp) (mksG (mkPl k) np) ∧ OwnG KBk 56 w' B (.slice ab nb cb) (mksG (mkBk (k + 5 * np)) nb) ∧ ∃ wm, w.grownBy wm (Value.slice ap np cp).ownBlock ∧ wm.grownBy w' (Value.slice ab nb cb).ownBlock := by
  have hl1 := fun k hk => (OwnG.lt hO1 k hk).2
  have HO := hidP (And.intro hO1 hO2)
  have HNE := hidP hne
  have HN := hidP (And.intro hnp hnb)
  have HL1 := hidP hl1
  clear hO1 hO2 hne hnp hnb hl1
  go_enter Try.func19, Try.ntmps19
  go_wp2_with fail
  obtain ⟨u0, u1⟩ := box2 (u := .slice ap np cp) (v := .slice ab nb cb) w 32
  have uB := alloc_below w (.cells #[.slice ap np cp, .slice ab nb cb] 32)
  have uL := alloc_lt w (.cells #[.slice ap np cp, .slice ab nb cb] 32)
  have uS : (w.alloc (.cells #[.slice ap np cp, .slice ab nb cb] 32)).heap.size = w.heap.size + 1 := by simp
  generalize w.alloc (.cells #[.slice ap np cp, .slice ab nb cb] 32) = W1 at *
  refine (markPoolS_any ap np cp B ps k W1 HN.out.1 (HO.out.1.later uB) (by omega) k0 (by omega)).mono ?_
  rintro e w2 ⟨rfl, o2, g2⟩
  have hob := OwnG.grown (HO.out.2.later uB) g2 (fun j hj h => HNE.out j h hj)
  have c1 : w2.cell? ⟨w.heap.size, 1, none⟩ = some (.slice ab nb cb) := (World.cell?_of_block (g2.block w.heap.size uL (fun e => by have := HL1.out _ e.symm; omega))).trans u1
  have G2 := hidP ((grown_of uB _).trans g2)
  have O2 := hidP (And.intro o2 hob)
  clear g2 o2 hob uB uS u0 u1 uL
  go_wp2_with fail
  refine (markBlockS_any ab nb cb B bs (k + 5 * np) w2 HN.out.2 O2.out.2 (by omega) (by omega) (by omega)).mono ?_
  rintro e w3 ⟨rfl, o3, g3⟩
  have op := OwnG.grown O2.out.1 g3 (fun j hj h => HNE.out j hj h)
  have F := hidP (And.intro op (And.intro o3 g3))
  clear op o3 g3 c1
  go_wp2_with fail
  go_ret
  exact ⟨rfl, F.out.1, F.out.2.1, w2, G2.out, F.out.2.2⟩

set_option maxHeartbeats 1000000 in
theorem heldPlan_any (ap : Option Addr) (np cp : Nat) (ab : Option Addr) (nb cb : Nat) (k : Int) (w : World) (hP : RowG KPl w ap (mksG (mkPl k) np)) (hK : RowG KBk w ab (mksG (mkBk (k + 5 * np)) nb)) (h1 : np ≤ 2000000) (h2 : nb ≤ 2000000) (k0 : 0 < k) (k1 : k ≤ 1000) :
    Calls Try.prog 20 #[.agg #[.slice ap np cp, .slice ab nb cb], .int .i64 k] w fun e w' => e = .returned (.int .i64 (k + 5 * np + 5 * nb)) ∧ Below w.heap.size w w' := by
  have HP := hidP (fun W h => heldPoolS_any ap cp np k W (hP.later h) (by omega) k0 (by omega))
  have HB := hidP (fun W h => heldBlockS_any ab cb nb (k + 5 * np) W (hK.later h) (by omega) (by omega) (by omega))
  have d1 : decide (k + 5 * (np : Int) < 0) = false := decide_eq_false (by omega)
  have d2 : decide (k + 5 * (np : Int) + 5 * (nb : Int) < 0) = false := decide_eq_false (by omega)
  have d3 : ¬ (k + 5 * (np : Int) < 0) := by omega
  have d4 : ¬ (k + 5 * (np : Int) + 5 * (nb : Int) < 0) := by omega
  clear hP hK
  go_enter Try.func20, Try.ntmps20
  go_wp2_with fail
  obtain ⟨u0, u1⟩ := box2 (u := .slice ap np cp) (v := .slice ab nb cb) w 32
  have uB := alloc_below w (.cells #[.slice ap np cp, .slice ab nb cb] 32)
  have uL := alloc_lt w (.cells #[.slice ap np cp, .slice ab nb cb] 32)
  have uS : (w.alloc (.cells #[.slice ap np cp, .slice ab nb cb] 32)).heap.size = w.heap.size + 1 := by simp
  generalize w.alloc (.cells #[.slice ap np cp, .slice ab nb cb] 32) = W1 at *
  have HU := hidP uB
  refine (HP.out _ uB).mono ?_
  rintro e w2 ⟨rfl, hb2⟩
  have c1 := (hb2.cell uL).trans u1
  have B2 := hidP (HU.out.trans (hb2.mono HU.out.size))
  clear uB uS u0 u1 hb2
  go_wp2_with fail
  refine (HB.out _ B2.out).mono ?_
  rintro e w3 ⟨rfl, hb3⟩
  have B3 := hidP (B2.out.trans (hb3.mono B2.out.size))
  clear hb3
  go_wp2_with fail
  go_ret
  exact ⟨rfl, B3.out⟩

end Go.Proofs.Ythbpehpnikknlaa

namespace Go.Proofs.Ythbpehpnikknlaa
open Go.RowKit

set_option maxHeartbeats 1000000 in
theorem clonePool (a : Option Addr) (n cap : Nat) (ps : List Pl) (w : World) (hn : n = ps.length) (hB : RowG KPl w a ps) (hl : n ≤ 1048576) :
    Calls Try.prog 79 #[.slice a n cap] w fun e w' => ∃ a' c', e = .returned (.slice a' n c') ∧ OwnG KPl 48 w' w.heap.size (.slice a' n c') ps ∧ Below w.heap.size w w' := by
  have hq : ∀ w, (binOp .eql 29 (.slice a n cap) (.slice none 0 0)).run Try.prog w = .ok (.bool a.isNone) w := fun w => Lib.run_eql_slice_nil w _ _ a n cap 0 0 Try.tyPl.1
  cases a with
  | none =>
    have hps : ps = [] := by
      cases ps with
      | nil => rfl
      | cons z t => obtain ⟨p, o, z', e, _⟩ := hB 0 (by simp); cases e
    subst hps
    have hn0 : n = 0 := hn
    subst hn0
    clear hB hn
    go_enter Try.func79, Try.ntmps79
    go_wp2_with fail
    go_ret
    exact ⟨none, 0, rfl, own_noneG KPl w w.heap.size 48, Below.refl _ _⟩
  | some ad =>
    have HB := hidP hB
    have HN := hidP hn
    clear hB hn
    have HZ := hidP (own_zeroG KPl w w.heap.size 48 (Nat.le_refl _))
    have HZB := hidP (alloc_below w (.cells #[] 48))
    go_enter Try.func79, Try.ntmps79
    go_wp2_with (at_builtin; refine wpList_appG Try.tyPl _ rfl (.tmp 5) (.tmp 6) 29 rfl w.heap.size (some ⟨w.heap.size, 0, none⟩) 0 0 n [] ps (.slice (some ad) n cap) rfl rfl HN.out HZ.out rfl (src_rowG Try.tyPl.1 n cap (by show 0 < 5; omega) HN.out (HB.out.later HZB.out) (fun h => by cases h)) (by omega) (by simp) ?_; intro a6 c6 w6 ho6 hg6 ht6)
    have HF := hidP (And.intro ho6 (below_appG HZB.out HZ.out (by simp) hg6))
    clear ho6 hg6 ht6
    go_wp2_with fail
    go_ret
    have h := HF.out
    rw [Nat.zero_add, List.nil_append] at h
    exact ⟨a6, c6, rfl, h.1, h.2⟩

set_option maxHeartbeats 1000000 in
theorem cloneBlock (a : Option Addr) (n cap : Nat) (ps : List Bk) (w : World) (hn : n = ps.length) (hB : RowG KBk w a ps) (hl : n ≤ 1048576) :
    Calls Try.prog 80 #[.slice a n cap] w fun e w' => ∃ a' c', e = .returned (.slice a' n c') ∧ OwnG KBk 56 w' w.heap.size (.slice a' n c') ps ∧ Below w.heap.size w w' := by
  have hq : ∀ w, (binOp .eql 30 (.slice a n cap) (.slice none 0 0)).run Try.prog w = .ok (.bool a.isNone) w := fun w => Lib.run_eql_slice_nil w _ _ a n cap 0 0 Try.tyBk.1
  cases a with
  | none =>
    have hps : ps = [] := by
      cases ps with
      | nil => rfl
      | cons z t => obtain ⟨p, o, z', e, _⟩ := hB 0 (by simp); cases e
    subst hps
    have hn0 : n = 0 := hn
    subst hn0
    clear hB hn
    go_enter Try.func80, Try.ntmps80
    go_wp2_with fail
    go_ret
    exact ⟨none, 0, rfl, own_noneG KBk w w.heap.size 56, Below.refl _ _⟩
  | some ad =>
    have HB := hidP hB
    have HN := hidP hn
    clear hB hn
    have HZ := hidP (own_zeroG KBk w w.heap.size 56 (Nat.le_refl _))
    have HZB := hidP (alloc_below w (.cells #[] 56))
    go_enter Try.func80, Try.ntmps80
    go_wp2_with (at_builtin; refine wpList_appG Try.tyBk _ rfl (.tmp 5) (.tmp 6) 30 rfl w.heap.size (some ⟨w.heap.size, 0, none⟩) 0 0 n [] ps (.slice (some ad) n cap) rfl rfl HN.out HZ.out rfl (src_rowG Try.tyBk.1 n cap (by show 0 < 5; omega) HN.out (HB.out.later HZB.out) (fun h => by cases h)) (by omega) (by simp) ?_; intro a6 c6 w6 ho6 hg6 ht6)
    have HF := hidP (And.intro ho6 (below_appG HZB.out HZ.out (by simp) hg6))
    clear ho6 hg6 ht6
    go_wp2_with fail
    go_ret
    have h := HF.out
    rw [Nat.zero_add, List.nil_append] at h
    exact ⟨a6, c6, rfl, h.1, h.2⟩

end Go.Proofs.Ythbpehpnikknlaa

namespace Go.Proofs.Ythbpehpnikknlaa
open Go.RowKit

theorem frz2 (w : World) (t : TypeId) (u v : Value) (o : Nat) : (w.alloc (.cells #[u, v] t)).frozen? ⟨w.heap.size, o, none⟩ = false := by simp [go_sem]

set_option maxRecDepth 10000 in
set_option maxHeartbeats 2000000 in
theorem ownPlan_any (ap : Option Addr) (np cp : Nat) (ab : Option Addr) (nb cb : Nat) (ps : List Pl) (bs : List Bk) (w : World) (hnp : np = ps.length) (hnb : nb = bs.length) (hP : RowG KPl w ap ps) (hK : RowG KBk w ab bs) (hl : np ≤ 1048576) (hl' : nb ≤ 1048576) :
    Calls Try.prog 49 #[.agg #[.slice ap np cp, .slice ab nb cb]] w fun e w' => ∃ a c b d, e = .returned (.agg #[.slice a np c, .slice b nb d]) ∧ OwnG KPl 48 w' w.heap.size (.slice a np c) ps ∧ OwnG KBk 56 w' w.heap.size (.slice b nb d) bs ∧ (∀ k, (Value.slice a np c).ownBlock = some k → (Value.slice b nb d).ownBlock ≠ some k) ∧ Below w.heap.size w w' := by
  have HCP := hidP (fun W h => clonePool ap np cp ps W hnp (hP.later h) hl)
  have HCB := hidP (fun W h => cloneBlock ab nb cb bs W hnb (hK.later h) hl')
  clear hP hK hnp hnb
  go_enter Try.func49, Try.ntmps49
  go_wp2_with fail
  obtain ⟨u0, u1⟩ := box2 (u := .slice ap np cp) (v := .slice ab nb cb) w 32
  have uB := alloc_below w (.cells #[.slice ap np cp, .slice ab nb cb] 32)
  have uL := alloc_lt w (.cells #[.slice ap np cp, .slice ab nb cb] 32)
  have uS : (w.alloc (.cells #[.slice ap np cp, .slice ab nb cb] 32)).heap.size = w.heap.size + 1 := by simp
  generalize w.alloc (.cells #[.slice ap np cp, .slice ab nb cb] 32) = W1 at *
  have yF := frz2 W1 32 (.slice none 0 0) (.slice none 0 0)
  obtain ⟨y0, y1⟩ := box2 (u := .slice none 0 0) (v := .slice none 0 0) W1 32
  have yB := alloc_below W1 (.cells #[.slice none 0 0, .slice none 0 0] 32)
  have yL := alloc_lt W1 (.cells #[.slice none 0 0, .slice none 0 0] 32)
  have yS : (W1.alloc (.cells #[.slice none 0 0, .slice none 0 0] 32)).heap.size = W1.heap.size + 1 := by simp
  generalize W1.alloc (.cells #[.slice none 0 0, .slice none 0 0] 32) = W2 at *
  rw [uS] at y0 y1 yL yS
  rw [uS] at yF
  have HU := hidP uB
  have HY := hidP yB.drew
  have hs1 : W1.heap.size = w.heap.size + 1 := uS
  have hs2 : W2.heap.size = w.heap.size + 1 + 1 := yS
  have HS12 := hidP (And.intro hs1 hs2)
  clear uB yB uS yS hs1 hs2
  have HSx : Hid (∀ x, Below W1.heap.size W1 x → (x.cell? ⟨w.heap.size, 0, none⟩ = some (.slice ap np cp) ∧ x.cell? ⟨w.heap.size, 1, none⟩ = some (.slice ab nb cb) ∧ Below W1.heap.size W1 x)) := hidP fun x h =>
    ⟨(h.cell uL).trans u0, (h.cell uL).trans u1, h⟩
  refine wp_region_held_drew (S := (fun x => x.cell? ⟨w.heap.size, 0, none⟩ = some (.slice ap np cp) ∧ x.cell? ⟨w.heap.size, 1, none⟩ = some (.slice ab nb cb) ∧ Below W1.heap.size W1 x)) (by kernel_rfl) ?_ (fun hHeld => ?_)
  · try dsimp only
    exact HSx.out _ (HY.out)
  refine wpAnyH_take (i := 0) (oi := ⟨some 3, _, _, _, _, _⟩) (v := ?_) rfl (by kernel_rfl) (by kernel_rfl) (by kernel_rfl) (fun _ _ _ h => h) (Or.inl ⟨by rfl, ?_⟩) (by assumption) ?_
  rotate_left
  · intro w hSw
    try dsimp only at hSw
    go_simp
    try with_reducible rfl
  simp only [Act.put, List.setIfInBounds_toArray, List.set_cons_zero, List.set_cons_succ]
  refine wpAnyH_take (i := 1) (oi := ⟨some 4, _, _, _, _, _⟩) (v := ?_) rfl (by kernel_rfl) (by kernel_rfl) (by kernel_rfl) (fun _ _ _ h => h) (Or.inl ⟨by rfl, ?_⟩) (by assumption) ?_
  rotate_left
  · intro w hSw
    try dsimp only at hSw
    go_simp
    try with_reducible rfl
  simp only [Act.put, List.setIfInBounds_toArray, List.set_cons_zero, List.set_cons_succ]
  refine wpAnyH_take (i := 3) (oi := ⟨some 6, _, _, _, _, _⟩) (v := ?_) rfl (by kernel_rfl) (by kernel_rfl) (by kernel_rfl) (fun _ _ _ h => h) (Or.inl ⟨by rfl, ?_⟩) (by assumption) ?_
  rotate_left
  · intro w hSw
    try dsimp only at hSw
    go_simp
    try with_reducible rfl
  simp only [Act.put, List.setIfInBounds_toArray, List.set_cons_zero, List.set_cons_succ]
  refine wpAnyH_take (i := 4) (oi := ⟨some 7, _, _, _, _, _⟩) (v := ?_) rfl (by kernel_rfl) (by kernel_rfl) (by kernel_rfl) (fun _ _ _ h => h) (Or.inl ⟨by rfl, ?_⟩) (by assumption) ?_
  rotate_left
  · intro w hSw
    try dsimp only at hSw
    go_simp
    try with_reducible rfl
  simp only [Act.put, List.setIfInBounds_toArray, List.set_cons_zero, List.set_cons_succ]
  refine wpAnyH_ready (rs := [2]) (by kernel_rfl) (by simp) ?_
  refine AllReadyH.cons rfl (fun K hK => ?_) AllReadyH.nil
  go_simp
  go_wp2_with (first | (go_at_call 79; refine (HCP.out _ (HU.out.trans ((hHeld.2.2).mono HU.out.size))).mono ?_; rintro e w3 ⟨a3, c3, rfl, og3, hb3⟩; have b3 := (hHeld.2.2).trans (hb3.mono (hHeld.2.2).size)))
  refine hK.out _ _ ?_ (fun hHeld => ?_)
  · try dsimp only
    exact HSx.out _ b3
  clear hK K
  refine wpAnyH_ready (rs := [5]) (by kernel_rfl) (by simp) ?_
  refine AllReadyH.cons rfl (fun K hK => ?_) AllReadyH.nil
  go_simp
  go_wp2_with (first | (go_at_call 80; refine (HCB.out _ (HU.out.trans ((hHeld.2.2).mono HU.out.size))).mono ?_; rintro e w4 ⟨a4, c4, rfl, oh4, hb4⟩; have b4 := (hHeld.2.2).trans (hb4.mono (hHeld.2.2).size)))
  refine hK.out _ _ ?_ (fun hHeld => ?_)
  · try dsimp only
    exact HSx.out _ b4
  clear hK K
  refine wpAnyH_take (i := 6) (oi := ⟨some 9, _, _, _, _, _⟩) (v := ?_) rfl (by kernel_rfl) (by kernel_rfl) (by kernel_rfl) (fun _ _ _ h => h) (Or.inl ⟨by rfl, ?_⟩) (by assumption) ?_
  rotate_left
  · intro w hSw
    try dsimp only at hSw
    go_simp
    try with_reducible rfl
  simp only [Act.put, List.setIfInBounds_toArray, List.set_cons_zero, List.set_cons_succ]
  have HO3 := hidP (og3.later (show Below w3.heap.size w3 w4 from hb4))
  have HO4 := hidP oh4
  have l3 := fun k hk => OwnG.lt og3 k hk
  have l4 := fun k hk => OwnG.lt oh4 k hk
  have z34 : w.heap.size + 1 < w3.heap.size := Nat.lt_of_lt_of_le yL hb3.size
  have r0 := (hb4.cell z34).trans ((hb3.cell yL).trans y0)
  have r1 := (hb4.cell z34).trans ((hb3.cell yL).trans y1)
  have rF : ∀ o, w4.frozen? ⟨w.heap.size + 1, o, none⟩ = false := fun o => (hb4.frozen z34).trans ((hb3.frozen yL).trans (yF o))
  have LL := hidP (And.intro l3 (And.intro l4 (And.intro hb3.size hb4.size)))
  clear l3 l4
  refine wpAnyH_ready (rs := [7]) (by kernel_rfl) (by simp) ?_
  refine AllReadyH.cons rfl (fun K hK => ?_) AllReadyH.nil
  go_simp
  refine hK.out _ _ ?_ (fun hHeld => ?_)
  · try dsimp only
    refine HSx.out _ ?_
    repeat (with_reducible refine Below.setCell ?_ ?_ _; rotate_left; (focus (have := HS12.out; simp; omega)))
    exact hHeld.2.2
  clear hK K
  have HE := hidP (hHeld.2.2)
  refine wpAnyH_done (by kernel_rfl) ?_ _
  clear hHeld
  go_wp2_with fail
  refine bodyPost_ret (v := .agg #[.slice a3 np c3, .slice a4 nb c4]) (by simp [results, Try.results49, go_sem, r0, r1]) rfl ⟨a3, c3, a4, c4, rfl, ?_, ?_, ?_, ?_⟩
  · have o1 := OwnG.grown HO3.out (grown_cellG w4 (w.heap.size + 1) 0 (.slice a3 np c3)) (fun k hk e => by have h5 : W2.heap.size ≤ k := (LL.out.1 k hk).1; have h6 := HS12.out; simp at e; omega)
    have o2 := OwnG.grown o1 (grown_cellG _ (w.heap.size + 1) 1 (.slice a4 nb c4)) (fun k hk e => by have h5 : W2.heap.size ≤ k := (LL.out.1 k hk).1; have h6 := HS12.out; simp at e; omega)
    exact o2.mono (show w.heap.size ≤ W2.heap.size by have := HS12.out; omega)
  · have o1 := OwnG.grown HO4.out (grown_cellG w4 (w.heap.size + 1) 0 (.slice a3 np c3)) (fun k hk e => by have h5 : w3.heap.size ≤ k := (LL.out.2.1 k hk).1; have h7 : W2.heap.size ≤ w3.heap.size := LL.out.2.2.1; have h6 := HS12.out; simp at e; omega)
    have o2 := OwnG.grown o1 (grown_cellG _ (w.heap.size + 1) 1 (.slice a4 nb c4)) (fun k hk e => by have h5 : w3.heap.size ≤ k := (LL.out.2.1 k hk).1; have h7 : W2.heap.size ≤ w3.heap.size := LL.out.2.2.1; have h6 := HS12.out; simp at e; omega)
    exact o2.mono (show w.heap.size ≤ w3.heap.size by have h7 : W2.heap.size ≤ w3.heap.size := LL.out.2.2.1; have := HS12.out; omega)
  · intro k h1 h2
    have l1 := LL.out.1 k h1
    have l2 := LL.out.2.1 k h2
    omega
  · exact HU.out.trans (HE.out.mono HU.out.size)

end Go.Proofs.Ythbpehpnikknlaa

namespace Go.Proofs.Ythbpehpnikknlaa
open Go.RowKit

theorem gflat_take {α : Type} (K : Kd α) : ∀ (ps : List α) (i : Nat), gflat K (ps.take i) = (gflat K ps).take (i * K.k)
  | [], i => by simp [gflat]
  | p :: t, 0 => by simp [gflat]
  | p :: t, i + 1 => by
      show K.cs p ++ gflat K (t.take i) = (K.cs p ++ gflat K t).take ((i + 1) * K.k)
      have e1 : (K.cs p).take ((i + 1) * K.k) = K.cs p := List.take_of_length_le (by rw [K.len, Nat.add_mul]; omega)
      have e2 : (i + 1) * K.k - (K.cs p).length = i * K.k := by rw [K.len, Nat.add_mul]; omega
      rw [gflat_take K t i, List.take_append, e1, e2]
theorem OwnG.cut {α : Type} {K : Kd α} {t : TypeId} {w : World} {B g n cap : Nat} {ps : List α} (h : OwnG K t w B (.slice (some ⟨g, 0, none⟩) n cap) ps) (i : Nat) (hi : i ≤ n) : OwnG K t w B (.slice (some ⟨g, 0, none⟩) i cap) (ps.take i) := by
  have hn := h.caps.1
  have hlt : (ps.take i).length = i := by rw [List.length_take]; omega
  rcases h.2 with ⟨hv, _⟩ | ⟨g', c', cur, hv, hb, hg, h1, h2, h3, h4⟩
  · simp at hv
  · simp at hv
    obtain ⟨e1, _, e2⟩ := hv
    subst e1 e2
    refine ⟨gflat_len K _, Or.inr ⟨g, cap, cur, by rw [hlt], hb, hg, by omega, h2, h3, ?_⟩⟩
    rw [hlt, gflat_take, ← h4, List.take_take]
    congr 1
    exact (Nat.min_eq_left (Nat.mul_le_mul_right _ (by omega))).symm
theorem OwnG.rowFrom {α : Type} {K : Kd α} {t : TypeId} {w : World} {B g n cap : Nat} {ps : List α} (h : OwnG K t w B (.slice (some ⟨g, 0, none⟩) n cap) ps) (j : Nat) : RowG K w (some ⟨g, j * K.k, none⟩) (ps.drop j) := fun i hi => by
  rw [List.length_drop] at hi
  obtain ⟨p, o, q, ha, hp, hq, c⟩ := h.row (j + i) (by omega)
  simp only [Option.some.injEq, Addr.mk.injEq, and_true] at ha
  obtain ⟨rfl, rfl⟩ := ha
  refine ⟨_, _, q, rfl, hp, by rw [List.getElem?_drop]; exact hq, fun x v hv => ?_⟩
  have := c x v hv
  rw [Nat.zero_add, Nat.add_mul] at this
  exact this

/-- An append to a row of one's own that has room for it. -/
theorem app_roomG {α : Type} {K : Kd α} {z : Value} {bytes : Nat} {P : Program} {t e : TypeId} (h4 : GTy K z bytes P t e) (w : World) (B : Nat) (tx ty : TypeId) (g n cap m : Nat) (ps qs : List α) (x : Value) (hn : n = ps.length) (hm : m = qs.length)
    (hown : OwnG K e w B (.slice (some ⟨g, 0, none⟩) n cap) ps) (hs : Src P K.k tx x m (gflat K qs) w) (hroom : n + m ≤ cap) :
    ∃ w', (Builtin.append_ #[t, tx] ty #[.slice (some ⟨g, 0, none⟩) n cap, x]).run P w = .ok (.slice (some ⟨g, 0, none⟩) (n + m) cap) w' ∧ OwnG K e w' B (.slice (some ⟨g, 0, none⟩) (n + m) cap) (ps ++ qs) ∧ w.grownBy w' (some g) ∧ w'.heap.size = w.heap.size := by
  obtain ⟨ht, h4, h5, h6⟩ := h4
  obtain ⟨i, hi, hz0, hz1, hz2⟩ := info_parts h4
  subst hn
  subst hm
  have hxl := hown.1
  have hnl := hs.newsLen
  rcases hown.2 with ⟨hv, hn0⟩ | ⟨g', cap', cur, hv, hbg, hg, hnc, hcm, hcs, htake⟩
  · simp at hv
  · simp at hv
    obtain ⟨rfl, rfl⟩ := hv
    have hmul : (ps.length + qs.length) * K.k ≤ cap * K.k := Nat.mul_le_mul_right _ hroom
    have hst := run_storeCells_at P g (ps.length * K.k) e (gflat K qs) 0 cur w hg (by rw [hcs, hnl, Nat.add_zero, ← Nat.add_mul]; exact hmul) hs.one
    simp only [Nat.add_zero] at hst
    have hr : (Builtin.append_ #[t, tx] ty #[.slice (some ⟨g, 0, none⟩) ps.length cap, x]).run P w = .ok (.slice (some ⟨g, 0, none⟩) (ps.length + qs.length) cap) (w.setRow g (cur.toList.take (ps.length * K.k) ++ gflat K qs ++ cur.toList.drop (ps.length * K.k + (gflat K qs).length)).toArray) := by
      rcases hs.kind with ⟨e', hk⟩ | hk <;> simp [Builtin.append_, run_underlying ht, run_underlying hk, sizeOf, typeInfo, hi, hz1, hs.len, hroom, hs.cells, Addr.add_lit, hst]
    refine ⟨_, hr, ⟨by rw [gflat_len], .inr ⟨g, cap, _, by rw [List.length_append], hbg, setRow_heap w g cur _ e _ hg, by rw [List.length_append]; exact hroom, hcm, ?_, ?_⟩⟩, ⟨rfl, rfl, rfl, by simp, fun k _ hk => setRow_other w g k _ (fun e => hk (by rw [e]))⟩, by simp⟩
    · simp only [List.size_toArray, List.length_append, List.length_take, List.length_drop, Array.length_toList, hcs, hnl]
      rw [Nat.add_mul] at hmul
      omega
    · rw [htake, gflat_app, List.length_append, show (ps.length + qs.length) * K.k = (gflat K ps ++ gflat K qs).length by rw [List.length_append, hxl, hnl, Nat.add_mul]]
      exact List.take_left
theorem step_roomG {α : Type} {K : Kd α} {z : Value} {bytes : Nat} {P : Program} {t e : TypeId} (h4 : GTy K z bytes P t e) {ops : Array Oper} {o : Oper} {a : Act} {Kx : Act → World → Prop} {Q : Exit → Act → World → Prop} {E : Prop} (w : World) (hgd : o.guard = none) (s x : Operand) (tx : TypeId)
    (ho : o.op = .call { callee := .builtin .append, args := #[s, x], argTypes := #[t, tx] })
    (B : Nat) (g n cap m : Nat) (ps qs : List α) (xv : Value) (hsv : a.eval s = .slice (some ⟨g, 0, none⟩) n cap) (hn : n = ps.length) (hm : m = qs.length) (hown : OwnG K e w B (.slice (some ⟨g, 0, none⟩) n cap) ps)
    (hx : a.eval x = xv) (hs : Src P K.k tx xv m (gflat K qs) w) (hroom : n + m ≤ cap)
    (h : ∀ w', OwnG K e w' B (.slice (some ⟨g, 0, none⟩) (n + m) cap) (ps ++ qs) → w.grownBy w' (some g) → w'.heap.size = w.heap.size → Kx (a.put o.dst (.slice (some ⟨g, 0, none⟩) (n + m) cap)) w') :
    if Region.wanted o (yielded ops a.tmps) = true then Oper.wp P o a w Kx Q else E := by
  have hw : Region.wanted o (yielded ops a.tmps) = true := by simp [Region.wanted, hgd]
  rw [if_pos hw]
  obtain ⟨w', hr, h2, h3, h5⟩ := app_roomG h4 w B tx o.type g n cap m ps qs xv hn hm hown hs hroom
  unfold Oper.wp execOp
  simp only [ho, resolve, invoke, builtin, Sem.run_bind, Sem.run_pure, Result.andThen_ok, List.map_toArray, List.map_cons, List.map_nil, hsv, hx, hr]
  exact h w' h2 h3 h5

theorem setCells_puts (b : Nat) : ∀ (vs : List Value) (w : World) (o : Nat), w.setCells b o vs = puts w b o vs
  | [], _, _ => rfl
  | v :: vs, w, o => setCells_puts b vs (w.setCell ⟨b, o, none⟩ v) (o + 1)
theorem sets_past : ∀ (vs l : List Value) (o : Nat), l.length ≤ o → sets l o vs = l
  | [], _, _, _ => rfl
  | v :: vs, l, o, h => by
      show sets (l.set o v) (o + 1) vs = l
      rw [List.set_eq_of_length_le h]
      exact sets_past vs l (o + 1) (by omega)
/-- One is cleared behind a row's end. -/
theorem run_clear1 {P : Program} (w : World) (t e ty : TypeId) (z : Value) (ht : P.underlying t = some (.slice e)) (hv : ∀ w, (zeroValue e).run P w = .ok z w) (h1 : ∀ v ∈ z.cells.toList, v.oneCell' = true) (b o c : Nat)
    (hc : ∀ j, j < z.cells.toList.length → (w.cell? ⟨b, o + j, none⟩).isSome = true) (hf : ∀ j, j < z.cells.toList.length → w.frozen? ⟨b, o + j, none⟩ = false) :
    (Builtin.clear_ #[t] ty #[.slice (some ⟨b, o, none⟩) 1 c]).run P w = .ok (.tuple #[]) (puts w b o z.cells.toList) := by
  have hzc : (Builtin.zeroCells z.cells 1).toList = z.cells.toList := by
    simp [Builtin.zeroCells]
    apply List.ext_getElem
    · simp
    · intro i h1 h2
      simp at h1 h2
      simp [Nat.mod_eq_of_lt h2, getElem!_pos, h2]
  have hst := run_storeCells_cells (P := P) b o z.cells.toList 0 w (by simpa using hc) (by simpa using hf) h1
  simp only [Nat.add_zero] at hst
  rw [setCells_puts] at hst
  simp [Builtin.clear_, run_underlying ht, hv, hzc, hst]

theorem wpList_clear1 {P : Program} {ops : Array Oper} {rest : List Oper} {o : Oper} {a : Act} {Q : Exit → Act → World → Prop} (w : World) (hgd : o.guard = none) (s : Operand) (t e : TypeId) (ho : o.op = .call { callee := .builtin .clear, args := #[s], argTypes := #[t] })
    (z : Value) (ht : P.underlying t = some (.slice e)) (hv : ∀ w, (zeroValue e).run P w = .ok z w) (h1 : ∀ v ∈ z.cells.toList, v.oneCell' = true) (b off c : Nat) (hsv : a.eval s = .slice (some ⟨b, off, none⟩) 1 c)
    (hc : ∀ j, j < z.cells.toList.length → (w.cell? ⟨b, off + j, none⟩).isSome = true) (hf : ∀ j, j < z.cells.toList.length → w.frozen? ⟨b, off + j, none⟩ = false)
    (h : wpList P ops Q rest (a.put o.dst (.tuple #[])) (puts w b off z.cells.toList)) : wpList P ops Q (o :: rest) a w :=
  wpList_plain hgd fun _ hK => by
    unfold Oper.wp execOp
    have hr := run_clear1 (P := P) w t e o.type z ht hv h1 b off c hc hf
    simp only [ho, resolve, invoke, builtin, Sem.run_bind, Sem.run_pure, Result.andThen_ok, List.map_toArray, List.map_cons, List.map_nil, hsv, hr]
    exact hK _ _ h
theorem OwnG.cellIn {α : Type} {K : Kd α} {t : TypeId} {w : World} {B g n cap : Nat} {ps : List α} (h : OwnG K t w B (.slice (some ⟨g, 0, none⟩) n cap) ps) (j : Nat) (hj : j < cap * K.k) : (w.cell? ⟨g, j, none⟩).isSome = true := by
  rcases h.2 with ⟨hv, _⟩ | ⟨g', c', cur, hv, hb, hg, h1, h2, h3, h4⟩
  · simp at hv
  · simp at hv
    obtain ⟨e1, _, e2⟩ := hv
    subst e1 e2
    simp [World.cell?, hg, h3, hj]
theorem grown_of' {w w' : World} (h : Below w.heap.size w w') (r : Option Nat) : w.grownBy w' r := ⟨h.os, h.tape, h.output, h.size, fun k hk _ => h.block k hk⟩

end Go.Proofs.Ythbpehpnikknlaa

namespace Go.Proofs.Ythbpehpnikknlaa
open Go.RowKit

theorem Try.zeroPl (w : World) : (zeroValue 48).run Try.prog w = .ok (.agg #[.bool false, .int .i64 0, .int .i64 0, .int .i64 0, .int .i64 0]) w := by
  obtain ⟨i0, hi, hz0, hz1, hz2⟩ := info_parts Try.tyPl.2.1
  simp [zeroValue, typeInfo, hi, hz0]
theorem erase_eq (ps : List Pl) (i : Nat) : ps.take i ++ ps.drop (i + 1) = ps.eraseIdx i := (List.eraseIdx_eq_take_drop_succ ps i).symm

set_option maxRecDepth 10000 in
set_option maxHeartbeats 1000000 in
theorem delete_any (g n cap B : Nat) (i : Nat) (ps : List Pl) (w : World) (hn : n = ps.length) (hi : i < n) (hl : n ≤ 1048576) (h : OwnG KPl 48 w B (.slice (some ⟨g, 0, none⟩) n cap) ps) :
    Calls Try.prog 65 #[.slice (some ⟨g, 0, none⟩) n cap, .int .i64 i, .int .i64 ((i : Int) + 1)] w fun e w' => e = .returned (.slice (some ⟨g, 0, none⟩) (n - 1) cap) ∧ OwnG KPl 48 w' B (.slice (some ⟨g, 0, none⟩) (n - 1) cap) (ps.eraseIdx i) ∧ w.grownBy w' (some g) := by
  have hcap := h.caps
  have hnc : n ≤ cap := by omega
  have hc9 : cap ≤ 9223372036854775807 := hcap.2.2.1
  have HO := hidP h
  have HN := hidP hn
  have hin : ((i : Int) == (i : Int) + 1) = false := by rw [beq_eq_false_iff_ne]; omega
  clear h hn hcap
  go_enter Try.func65, Try.ntmps65
  go_wp2_with fail
  have HOd := hidP (OwnG.later HO.out (Below.refl _ w).drew)
  have hl1 : (ps.take i).length = i := by rw [List.length_take]; have := HN.out; omega
  have hl2 : (ps.drop (i + 1)).length = n - (i + 1) := by rw [List.length_drop, HN.out]
  have HL := hidP (And.intro hl1 hl2)
  clear hl1 hl2
  have b1 : (i : Int) ≤ (cap : Int) := by omega
  have b2 : (i : Int) ≤ (i : Int) + 1 := by omega
  have b3 : (0 : Int) ≤ (i : Int) + 1 := by omega
  have b4 : (i : Int) + 1 ≤ (n : Int) := by omega
  by_cases hcj : cap = i + 1
  · have hn2 : n = i + 1 := by omega
    subst hn2
    subst hcj
    refine wp_region_held_drew (S := fun _ => True) (by kernel_rfl) trivial (fun hHeld => ?_)
    refine wpAnyH_take (i := 0) (oi := ⟨some 20, _, _, _, _, _⟩) (v := ?_) rfl (by kernel_rfl) (by kernel_rfl) (by kernel_rfl) (fun _ _ _ h => h) (Or.inl ⟨by rfl, ?_⟩) (by assumption) ?_
    rotate_left
    · intro w hSw
      try dsimp only at hSw
      go_simp
      try with_reducible rfl
    simp only [Act.put, List.setIfInBounds_toArray, List.set_cons_zero, List.set_cons_succ]
    refine wpAnyH_take (i := 1) (oi := ⟨some 21, _, _, _, _, _⟩) (v := ?_) rfl (by kernel_rfl) (by kernel_rfl) (by kernel_rfl) (fun _ _ _ h => h) (Or.inl ⟨by rfl, ?_⟩) (by assumption) ?_
    rotate_left
    · intro w hSw
      try dsimp only at hSw
      go_simp
      try with_reducible rfl
    simp only [Act.put, List.setIfInBounds_toArray, List.set_cons_zero, List.set_cons_succ]
    refine wpAnyH_take (i := 2) (oi := ⟨some 22, _, _, _, _, _⟩) (v := ?_) rfl (by kernel_rfl) (by kernel_rfl) (by kernel_rfl) (fun _ _ _ h => h) (Or.inl ⟨by rfl, ?_⟩) (by assumption) ?_
    rotate_left
    · intro w hSw
      try dsimp only at hSw
      go_simp
      try with_reducible rfl
    simp only [Act.put, List.setIfInBounds_toArray, List.set_cons_zero, List.set_cons_succ]
    refine wpAnyH_take (i := 3) (oi := ⟨some 23, _, _, _, _, _⟩) (v := ?_) rfl (by kernel_rfl) (by kernel_rfl) (by kernel_rfl) (fun _ _ _ h => h) (Or.inl ⟨by rfl, ?_⟩) (by assumption) ?_
    rotate_left
    · intro w hSw
      try dsimp only at hSw
      go_simp
      try with_reducible rfl
    simp only [Act.put, List.setIfInBounds_toArray, List.set_cons_zero, List.set_cons_succ]
    refine wpAnyH_take (i := 4) (oi := ⟨some 24, _, _, _, _, _⟩) (v := ?_) rfl (by kernel_rfl) (by kernel_rfl) (by kernel_rfl) (fun _ _ _ h => h) (Or.inl ⟨by rfl, ?_⟩) (by assumption) ?_
    rotate_left
    · intro w hSw
      try dsimp only at hSw
      go_simp
      try with_reducible rfl
    simp only [Act.put, List.setIfInBounds_toArray, List.set_cons_zero, List.set_cons_succ]
    refine wpAnyH_take (i := 5) (oi := ⟨some 25, _, _, _, _, _⟩) (v := ?_) rfl (by kernel_rfl) (by kernel_rfl) (by kernel_rfl) (fun _ _ _ h => h) (Or.inl ⟨by rfl, ?_⟩) (by assumption) ?_
    rotate_left
    · intro w hSw
      try dsimp only at hSw
      go_simp
      try with_reducible rfl
    simp only [Act.put, List.setIfInBounds_toArray, List.set_cons_zero, List.set_cons_succ]
    refine wpAnyH_ready (rs := [6]) (by kernel_rfl) (by simp) ?_
    refine AllReadyH.cons rfl (fun K hK => ?_) AllReadyH.nil
    refine step_roomG Try.tyPl _ rfl (.tmp 22) (.tmp 25) 29 rfl B g i (i + 1) (i + 1 - (i + 1)) (ps.take i) (ps.drop (i + 1)) (.slice (some ⟨g, 0, none⟩) (i + 1 - (i + 1)) 0) (by rfl) HL.out.1.symm HL.out.2.symm (OwnG.cut HOd.out i (by omega)) (by rw [Nat.sub_self]; rfl) (src_rowG Try.tyPl.1 _ _ (by show 0 < 5; omega) HL.out.2.symm (fun j hj => by rw [HL.out.2] at hj; omega) (fun h => by cases h)) (by omega) ?_
    intro w6 ho6 hg6 hs6
    refine hK.out _ _ trivial (fun hHeld => ?_)
    clear hK K
    refine wpAnyH_take (i := 7) (oi := ⟨some 0, _, _, _, _, _⟩) (v := ?_) rfl (by kernel_rfl) (by kernel_rfl) (by kernel_rfl) (fun _ _ _ h => h) (Or.inl ⟨by rfl, ?_⟩) (by assumption) ?_
    rotate_left
    · intro w hSw
      try dsimp only at hSw
      go_simp
      try with_reducible rfl
    simp only [Act.put, List.setIfInBounds_toArray]
    refine wpAnyH_done (by kernel_rfl) ?_ _
    clear hHeld
    rw [erase_eq] at ho6
    rw [Nat.sub_self, Nat.add_zero] at ho6
    have HM := hidP (And.intro (Eq.refl i) (Eq.refl (i + 1)))
    have hMc : (i + 1) ≠ i := by omega
    have hMc2 : ¬ (i + 1) = i := by omega
    have e1 : (i : Int) ≤ ((i + 1) : Int) := by omega
    have e2 : ((i + 1) : Int) ≤ (((i + 1) : Nat) : Int) := by omega
    have e3 : (0 : Int) ≤ (i : Int) := by omega
    have HO6 := hidP (And.intro ho6 hg6)
    have HZ := hidP (fun (w : World) => Try.zeroPl w)
    have HCI := hidP (fun j (hj : j < 5) => OwnG.cellIn ho6 (i * 5 + j) (show i * 5 + j < (i + 1) * 5 by omega))
    have HFI := hidP (fun j => OwnG.frozen ho6 (i * 5 + j))
    clear ho6 hg6 hs6
    have hclr : (Builtin.clear_ #[29] 0 #[.slice (some ⟨g, i * 5, none⟩) 1 1]).run Try.prog w6 = .ok (.tuple #[]) (puts w6 g (i * 5) [.bool false, .int .i64 0, .int .i64 0, .int .i64 0, .int .i64 0]) := run_clear1 w6 _ _ _ _ Try.tyPl.1 HZ.out (fun v hv => by simp [Value.cells] at hv; rcases hv with rfl | rfl <;> rfl) g (i * 5) _ (fun j hj => HCI.out j hj) (fun j _ => HFI.out j)
    go_wp2_with fail
    go_ret
    refine ⟨rfl, ?_, ?_⟩
    · have hlen : (ps.eraseIdx i).length = i := by rw [List.length_eraseIdx]; have := HN.out; have := HM.out; rw [if_pos (by omega)]; omega
      have hp := puts_own [.bool false, .int .i64 0, .int .i64 0, .int .i64 0, .int .i64 0] w6 _ (i * 5) (show w6.ownsRow B 48 5 (.slice (some ⟨g, 0, none⟩) i (i + 1)) i (gflat KPl (ps.eraseIdx i)) from by have := HO6.out.1; unfold OwnG at this; rw [hlen] at this; exact this)
      rw [sets_past _ _ _ (by rw [gflat_len, hlen]; exact Nat.le_refl _)] at hp
      unfold OwnG
      rw [hlen]
      exact hp
    · exact puts_grown _ _ _ ((grown_of' (Below.refl _ w).drew (some g)).trans HO6.out.2)
  · refine wp_region_held_drew (S := fun _ => True) (by kernel_rfl) trivial (fun hHeld => ?_)
    refine wpAnyH_take (i := 0) (oi := ⟨some 20, _, _, _, _, _⟩) (v := ?_) rfl (by kernel_rfl) (by kernel_rfl) (by kernel_rfl) (fun _ _ _ h => h) (Or.inl ⟨by rfl, ?_⟩) (by assumption) ?_
    rotate_left
    · intro w hSw
      try dsimp only at hSw
      go_simp
      try with_reducible rfl
    simp only [Act.put, List.setIfInBounds_toArray, List.set_cons_zero, List.set_cons_succ]
    refine wpAnyH_take (i := 1) (oi := ⟨some 21, _, _, _, _, _⟩) (v := ?_) rfl (by kernel_rfl) (by kernel_rfl) (by kernel_rfl) (fun _ _ _ h => h) (Or.inl ⟨by rfl, ?_⟩) (by assumption) ?_
    rotate_left
    · intro w hSw
      try dsimp only at hSw
      go_simp
      try with_reducible rfl
    simp only [Act.put, List.setIfInBounds_toArray, List.set_cons_zero, List.set_cons_succ]
    refine wpAnyH_take (i := 2) (oi := ⟨some 22, _, _, _, _, _⟩) (v := ?_) rfl (by kernel_rfl) (by kernel_rfl) (by kernel_rfl) (fun _ _ _ h => h) (Or.inl ⟨by rfl, ?_⟩) (by assumption) ?_
    rotate_left
    · intro w hSw
      try dsimp only at hSw
      go_simp
      try with_reducible rfl
    simp only [Act.put, List.setIfInBounds_toArray, List.set_cons_zero, List.set_cons_succ]
    refine wpAnyH_take (i := 3) (oi := ⟨some 23, _, _, _, _, _⟩) (v := ?_) rfl (by kernel_rfl) (by kernel_rfl) (by kernel_rfl) (fun _ _ _ h => h) (Or.inl ⟨by rfl, ?_⟩) (by assumption) ?_
    rotate_left
    · intro w hSw
      try dsimp only at hSw
      go_simp
      try with_reducible rfl
    simp only [Act.put, List.setIfInBounds_toArray, List.set_cons_zero, List.set_cons_succ]
    refine wpAnyH_take (i := 4) (oi := ⟨some 24, _, _, _, _, _⟩) (v := ?_) rfl (by kernel_rfl) (by kernel_rfl) (by kernel_rfl) (fun _ _ _ h => h) (Or.inl ⟨by rfl, ?_⟩) (by assumption) ?_
    rotate_left
    · intro w hSw
      try dsimp only at hSw
      go_simp
      try with_reducible rfl
    simp only [Act.put, List.setIfInBounds_toArray, List.set_cons_zero, List.set_cons_succ]
    refine wpAnyH_take (i := 5) (oi := ⟨some 25, _, _, _, _, _⟩) (v := ?_) rfl (by kernel_rfl) (by kernel_rfl) (by kernel_rfl) (fun _ _ _ h => h) (Or.inl ⟨by rfl, ?_⟩) (by assumption) ?_
    rotate_left
    · intro w hSw
      try dsimp only at hSw
      go_simp
      try with_reducible rfl
    simp only [Act.put, List.setIfInBounds_toArray, List.set_cons_zero, List.set_cons_succ]
    refine wpAnyH_ready (rs := [6]) (by kernel_rfl) (by simp) ?_
    refine AllReadyH.cons rfl (fun K hK => ?_) AllReadyH.nil
    refine step_roomG Try.tyPl _ rfl (.tmp 22) (.tmp 25) 29 rfl B g i cap (n - (i + 1)) (ps.take i) (ps.drop (i + 1)) (.slice (some ⟨g, (i + 1) * 5, none⟩) (n - (i + 1)) (cap - (i + 1))) (by rfl) HL.out.1.symm HL.out.2.symm (OwnG.cut HOd.out i (by omega)) rfl (src_rowG Try.tyPl.1 _ _ (by show 0 < 5; omega) HL.out.2.symm (OwnG.rowFrom HOd.out (i + 1)) (fun h => by cases h)) (by omega) ?_
    intro w6 ho6 hg6 hs6
    refine hK.out _ _ trivial (fun hHeld => ?_)
    clear hK K
    refine wpAnyH_take (i := 7) (oi := ⟨some 0, _, _, _, _, _⟩) (v := ?_) rfl (by kernel_rfl) (by kernel_rfl) (by kernel_rfl) (fun _ _ _ h => h) (Or.inl ⟨by rfl, ?_⟩) (by assumption) ?_
    rotate_left
    · intro w hSw
      try dsimp only at hSw
      go_simp
      try with_reducible rfl
    simp only [Act.put, List.setIfInBounds_toArray]
    refine wpAnyH_done (by kernel_rfl) ?_ _
    clear hHeld
    rw [erase_eq] at ho6
    obtain ⟨M, hM⟩ : ∃ M, M = i + (n - (i + 1)) := ⟨_, rfl⟩
    rw [← hM] at ho6 ⊢
    have hMn : M + 1 = n := by omega
    have HM := hidP (And.intro hM hMn)
    have hMc : cap ≠ M := by omega
    have hMc2 : ¬ cap = M := by omega
    have hn1 : n - M = 1 := by omega
    have e1 : (M : Int) ≤ (n : Int) := by omega
    have e2 : (n : Int) ≤ ((cap : Nat) : Int) := by omega
    have e3 : (0 : Int) ≤ (M : Int) := by omega
    have HO6 := hidP (And.intro ho6 hg6)
    have HZ := hidP (fun (w : World) => Try.zeroPl w)
    have HCI := hidP (fun j (hj : j < 5) => OwnG.cellIn ho6 (M * 5 + j) (show M * 5 + j < cap * 5 by omega))
    have HFI := hidP (fun j => OwnG.frozen ho6 (M * 5 + j))
    clear ho6 hg6 hs6 hM hMn
    have hclr : (Builtin.clear_ #[29] 0 #[.slice (some ⟨g, M * 5, none⟩) 1 (cap - M)]).run Try.prog w6 = .ok (.tuple #[]) (puts w6 g (M * 5) [.bool false, .int .i64 0, .int .i64 0, .int .i64 0, .int .i64 0]) := run_clear1 w6 _ _ _ _ Try.tyPl.1 HZ.out (fun v hv => by simp [Value.cells] at hv; rcases hv with rfl | rfl <;> rfl) g (M * 5) _ (fun j hj => HCI.out j hj) (fun j _ => HFI.out j)
    go_wp2_with fail
    go_ret
    refine ⟨by rw [show n - 1 = M by have := HM.out; omega]; rfl, ?_, ?_⟩
    · rw [show n - 1 = M by have := HM.out; omega]
      have hlen : (ps.eraseIdx i).length = M := by rw [List.length_eraseIdx]; have := HN.out; have := HM.out; rw [if_pos (by omega)]; omega
      have hp := puts_own [.bool false, .int .i64 0, .int .i64 0, .int .i64 0, .int .i64 0] w6 _ (M * 5) (show w6.ownsRow B 48 5 (.slice (some ⟨g, 0, none⟩) M cap) M (gflat KPl (ps.eraseIdx i)) from by have := HO6.out.1; unfold OwnG at this; rw [hlen] at this; exact this)
      rw [sets_past _ _ _ (by rw [gflat_len, hlen]; exact Nat.le_refl _)] at hp
      unfold OwnG
      rw [hlen]
      exact hp
    · exact puts_grown _ _ _ ((grown_of' (Below.refl _ w).drew (some g)).trans HO6.out.2)

end Go.Proofs.Ythbpehpnikknlaa

namespace Go.Proofs.Ythbpehpnikknlaa
open Go.RowKit

def peqB (p q : Pf) : Bool := (p.s == q.s && (p.H.toInt == q.H.toInt && p.L.toInt == q.L.toInt)) && p.b == q.b
theorem eqSt9 (a : Bool) (b c : Int) (d : Bool) (e f : Int) (w : World) : (Op.equalIn 9999 44 (.agg #[.bool a, .int .i64 b, .int .i64 c]) (.agg #[.bool d, .int .i64 e, .int .i64 f])).run Try.prog w = .ok (a == d && (b == e && c == f)) w := by
  have u3 := Try.underlying3
  have a3 := Try.isAgg3
  have z3 := Try.sizeOf3
  have u4 := Try.underlying4
  have a4 := Try.isAgg4
  have z4 := Try.sizeOf4
  have hS : Try.prog.underlying 44 = some (.struct (Try.prog.fieldsOf 44)) := by kernel_rfl
  have hp : Try.prog.stoodInHeld 44 = false := by kernel_rfl
  rw [show (9999 : Nat) = 9998 + 1 from rfl, run_equalIn_agg w 9998 44 _ _ hS hp]
  simp only [Program.fieldsOf, Try.underlying44]
  go_simp
  by_cases h1 : a = d <;> by_cases h2 : b = e <;> by_cases h3 : c = f <;> simp [h1, h2, h3]
set_option maxHeartbeats 400000 in
theorem eqPfx (p q : Pf) (w : World) : (binOp .eql 46 (.agg #[.bool p.s, .int .i64 p.H.toInt, .int .i64 p.L.toInt, .int .i64 p.b]) (.agg #[.bool q.s, .int .i64 q.H.toInt, .int .i64 q.L.toInt, .int .i64 q.b])).run Try.prog w = .ok (.bool (peqB p q)) w := by
  have u3 := Try.underlying3
  have a3 := Try.isAgg3
  have z3 := Try.sizeOf3
  have u4 := Try.underlying44
  have a4 := Try.isAgg44
  have z4 := Try.sizeOf44
  have hS : Try.prog.underlying 46 = some (.struct (Try.prog.fieldsOf 46)) := by kernel_rfl
  have hp : Try.prog.stoodInHeld 46 = false := by kernel_rfl
  have hE : (Op.equalIn 10000 46 (.agg #[.bool p.s, .int .i64 p.H.toInt, .int .i64 p.L.toInt, .int .i64 p.b]) (.agg #[.bool q.s, .int .i64 q.H.toInt, .int .i64 q.L.toInt, .int .i64 q.b])).run Try.prog w = .ok (peqB p q) w := by
    have h9 := eqSt9 p.s p.H.toInt p.L.toInt q.s q.H.toInt q.L.toInt
    rw [show (10000 : Nat) = 9999 + 1 from rfl, run_equalIn_agg w 9999 46 _ _ hS hp]
    simp only [Program.fieldsOf, Try.underlying46]
    go_simp
    unfold peqB
    by_cases h1 : p.s = q.s <;> by_cases h2 : p.H.toInt = q.H.toInt <;> by_cases h3 : p.L.toInt = q.L.toInt <;> by_cases h4 : p.b = q.b <;> simp [h1, h2, h3, h4]
  simp only [binOp]
  simp [Op.equal, Op.maxDepth, hE]
theorem peq_iff {p q : Pf} : peqB p q = true ↔ p = q := by
  unfold peqB
  rw [Bool.and_eq_true, Bool.and_eq_true, Bool.and_eq_true, beq_iff_eq, beq_iff_eq, beq_iff_eq, beq_iff_eq]
  constructor
  · rintro ⟨⟨a, b, c⟩, d⟩
    obtain ⟨s, H, L, n⟩ := p
    obtain ⟨s', H', L', n'⟩ := q
    have e1 := BitVec.eq_of_toInt_eq b
    have e2 := BitVec.eq_of_toInt_eq c
    simp only at a d e1 e2
    subst a d e1 e2
    rfl
  · rintro rfl; exact ⟨⟨rfl, rfl, rfl⟩, rfl⟩

end Go.Proofs.Ythbpehpnikknlaa

namespace Go.Proofs.Ythbpehpnikknlaa
open Go.RowKit

/-- The place of the pool p. -/
def plc (p : Pf) (ps : List Pl) : Int := ixF (fun q => peqB q.p p) 0 ps

set_option maxHeartbeats 1000000 in
theorem place1_any (p : Pf) (q : Pl) (cb : Nat) (w : World) (hcb : cb < w.heap.size) (x0 : w.cell? ⟨cb, 0, none⟩ = some (.bool p.s)) (x1 : w.cell? ⟨cb, 1, none⟩ = some (.int .i64 p.H.toInt)) (x2 : w.cell? ⟨cb, 2, none⟩ = some (.int .i64 p.L.toInt)) (x3 : w.cell? ⟨cb, 3, none⟩ = some (.int .i64 p.b)) :
    Calls Try.prog 88 #[.agg #[.bool q.p.s, .int .i64 q.p.H.toInt, .int .i64 q.p.L.toInt, .int .i64 q.p.b, .int .i64 q.n], .pointer (some ⟨cb, 0, none⟩)] w fun e w' => e = .returned (.bool (peqB q.p p)) ∧ Below w.heap.size w w' := by
  have hne : cb ≠ w.heap.size := by omega
  have hq := eqPfx q.p p
  generalize peqB q.p p = r at *
  go_enter Try.func88, Try.ntmps88
  go_wp2_with fail
  go_ret
  exact ⟨rfl, (Below.refl _ _).alloc (Nat.le_refl _) _⟩

set_option maxHeartbeats 1000000 in
theorem placeOfPool_any (pt : Pf) (ap : Option Addr) (np cp : Nat) (ab : Option Addr) (nb cb : Nat) (ps : List Pl) (w : World) (hnp : np = ps.length) (hP : RowG KPl w ap ps) (hlp : np ≤ 9000000000) :
    Calls Try.prog 63 #[.agg #[.slice ap np cp, .slice ab nb cb], .agg #[.bool pt.s, .int .i64 pt.H.toInt, .int .i64 pt.L.toInt, .int .i64 pt.b]] w fun e w' => e = .returned (.int .i64 (plc pt ps)) ∧ Below w.heap.size w w' := by
  have HB := hidP hP
  have HN := hidP hnp
  clear hP hnp
  go_enter Try.func63, Try.ntmps63
  go_wp2_with fail
  obtain ⟨u0, u1⟩ := box2 (u := .slice ap np cp) (v := .slice ab nb cb) w 32
  have uB := alloc_below w (.cells #[.slice ap np cp, .slice ab nb cb] 32)
  have uL := alloc_lt w (.cells #[.slice ap np cp, .slice ab nb cb] 32)
  have uS : (w.alloc (.cells #[.slice ap np cp, .slice ab nb cb] 32)).heap.size = w.heap.size + 1 := by simp
  generalize w.alloc (.cells #[.slice ap np cp, .slice ab nb cb] 32) = W1 at *
  obtain ⟨y0, y1, y2, y3⟩ := box4 (p := pt) W1 46
  have yB := alloc_below W1 (.cells #[.bool pt.s, .int .i64 pt.H.toInt, .int .i64 pt.L.toInt, .int .i64 pt.b] 46)
  have yL := alloc_lt W1 (.cells #[.bool pt.s, .int .i64 pt.H.toInt, .int .i64 pt.L.toInt, .int .i64 pt.b] 46)
  have yS : (W1.alloc (.cells #[.bool pt.s, .int .i64 pt.H.toInt, .int .i64 pt.L.toInt, .int .i64 pt.b] 46)).heap.size = W1.heap.size + 1 := by simp
  generalize W1.alloc (.cells #[.bool pt.s, .int .i64 pt.H.toInt, .int .i64 pt.L.toInt, .int .i64 pt.b] 46) = W2 at *
  rw [uS] at y0 y1 y2 y3 yL yS
  have HUB := hidP (uB.trans (yB.mono uB.size))
  have HC := hidP (idx_place (fun q => peqB q.p pt) (w.heap.size + 1) ap np cp ps W2 HN.out (HB.out.later HUB.out) hlp (fun q W hW => place1_any pt q (w.heap.size + 1) W (Nat.lt_of_lt_of_le yL hW.size) ((hW.cell yL).trans y0) ((hW.cell yL).trans y1) ((hW.cell yL).trans y2) ((hW.cell yL).trans y3)))
  clear uB yB uS yS u0 u1 y0 y1 y2 y3
  refine (HC.out).mono ?_
  rintro e w1 ⟨rfl, hb1⟩
  go_wp2_with fail
  go_ret
  exact ⟨rfl, HUB.out.trans (hb1.mono HUB.out.size)⟩

set_option maxRecDepth 10000 in
set_option maxHeartbeats 1000000 in
theorem exact_a (pt : Pf) (ap : Option Addr) (np cp : Nat) (ab : Option Addr) (nb cb : Nat) (ps : List Pl) (w : World) (hnp : np = ps.length) (hP : RowG KPl w ap ps) (hlp : np ≤ 9000000000) (hk : lpF pt 0 ps = -1) :
    Calls Try.prog 60 #[.agg #[.slice ap np cp, .slice ab nb cb], .agg #[.bool pt.s, .int .i64 pt.H.toInt, .int .i64 pt.L.toInt, .int .i64 pt.b]] w fun e w' => e = .returned (.int .i64 (-1)) ∧ Below w.heap.size w w' := by
  have HL := hidP (fun W h => l5Pool_any pt ap np cp ab nb cb ps W hnp (hP.later h) hlp)
  rw [hk] at HL
  have HB := hidP hP
  have HN := hidP hnp
  clear hP hnp
  go_enter Try.func60, Try.ntmps60
  go_wp2_with fail
  obtain ⟨u0, u1⟩ := box2 (u := .slice ap np cp) (v := .slice ab nb cb) w 32
  have uB := alloc_below w (.cells #[.slice ap np cp, .slice ab nb cb] 32)
  have uL := alloc_lt w (.cells #[.slice ap np cp, .slice ab nb cb] 32)
  have uS : (w.alloc (.cells #[.slice ap np cp, .slice ab nb cb] 32)).heap.size = w.heap.size + 1 := by simp
  generalize w.alloc (.cells #[.slice ap np cp, .slice ab nb cb] 32) = W1 at *
  obtain ⟨y0, y1, y2, y3⟩ := box4 (p := pt) W1 46
  have yB := alloc_below W1 (.cells #[.bool pt.s, .int .i64 pt.H.toInt, .int .i64 pt.L.toInt, .int .i64 pt.b] 46)
  have yL := alloc_lt W1 (.cells #[.bool pt.s, .int .i64 pt.H.toInt, .int .i64 pt.L.toInt, .int .i64 pt.b] 46)
  have yS : (W1.alloc (.cells #[.bool pt.s, .int .i64 pt.H.toInt, .int .i64 pt.L.toInt, .int .i64 pt.b] 46)).heap.size = W1.heap.size + 1 := by simp
  generalize W1.alloc (.cells #[.bool pt.s, .int .i64 pt.H.toInt, .int .i64 pt.L.toInt, .int .i64 pt.b] 46) = W2 at *
  rw [uS] at y0 y1 y2 y3 yL yS
  have s0 := (yB.cell uL).trans u0
  have sL : w.heap.size < W2.heap.size := by omega
  have HUB := hidP (uB.trans (yB.mono uB.size))
  clear uB yB uS yS u0 u1 uL
  refine (HL.out _ HUB.out).mono ?_
  rintro e w3 ⟨rfl, hb3⟩
  have z0 := (hb3.cell sL).trans s0
  have zL : w.heap.size < w3.heap.size := Nat.lt_of_lt_of_le sL hb3.size
  have r0 := (hb3.cell yL).trans y0
  have r1 := (hb3.cell yL).trans y1
  have r2 := (hb3.cell yL).trans y2
  have r3 := (hb3.cell yL).trans y3
  have rL : w.heap.size + 1 < w3.heap.size := Nat.lt_of_lt_of_le yL hb3.size
  have B3 := hidP (HUB.out.trans (hb3.mono HUB.out.size))
  clear hb3 s0 y0 y1 y2 y3
  go_wp2_with fail
  have HSx : Hid (∀ x, Below w3.heap.size w3 x → (x.cell? ⟨w.heap.size, 0, none⟩ = some (.slice ap np cp) ∧ x.cell? ⟨w.heap.size + 1, 0, none⟩ = some (.bool pt.s) ∧ x.cell? ⟨w.heap.size + 1, 1, none⟩ = some (.int .i64 pt.H.toInt) ∧ x.cell? ⟨w.heap.size + 1, 2, none⟩ = some (.int .i64 pt.L.toInt) ∧ x.cell? ⟨w.heap.size + 1, 3, none⟩ = some (.int .i64 pt.b) ∧ Below w3.heap.size w3 x)) := hidP fun x h =>
    ⟨(h.cell zL).trans z0, (h.cell rL).trans r0, (h.cell rL).trans r1, (h.cell rL).trans r2, (h.cell rL).trans r3, h⟩
  refine wp_region_held_drew (S := (fun x => x.cell? ⟨w.heap.size, 0, none⟩ = some (.slice ap np cp) ∧ x.cell? ⟨w.heap.size + 1, 0, none⟩ = some (.bool pt.s) ∧ x.cell? ⟨w.heap.size + 1, 1, none⟩ = some (.int .i64 pt.H.toInt) ∧ x.cell? ⟨w.heap.size + 1, 2, none⟩ = some (.int .i64 pt.L.toInt) ∧ x.cell? ⟨w.heap.size + 1, 3, none⟩ = some (.int .i64 pt.b) ∧ Below w3.heap.size w3 x)) (by kernel_rfl) ?_ (fun hHeld => ?_)
  · try dsimp only
    exact HSx.out _ ((Below.refl _ _).drew)
  refine wpAnyH_take (i := 0) (oi := ⟨some 9, _, _, _, _, _⟩) (v := ?_) rfl (by kernel_rfl) (by kernel_rfl) (by kernel_rfl) (fun _ _ _ h => h) (Or.inl ⟨by rfl, ?_⟩) (by assumption) ?_
  rotate_left
  · intro w hSw
    try dsimp only at hSw
    go_simp
    try with_reducible rfl
  simp only [Act.put, List.setIfInBounds_toArray, List.set_cons_zero, List.set_cons_succ]
  refine wpAnyH_take (i := 1) (oi := ⟨some 10, _, _, _, _, _⟩) (v := ?_) rfl (by kernel_rfl) (by kernel_rfl) (by kernel_rfl) (fun _ _ _ h => h) (Or.inl ⟨by rfl, ?_⟩) (by assumption) ?_
  rotate_left
  · intro w hSw
    try dsimp only at hSw
    go_simp
    try with_reducible rfl
  simp only [Act.put, List.setIfInBounds_toArray, List.set_cons_zero, List.set_cons_succ]
  refine wpAnyH_take (i := 2) (oi := ⟨some 11, _, _, _, _, _⟩) (v := ?_) rfl (by kernel_rfl) (by kernel_rfl) (by kernel_rfl) (fun _ _ _ h => h) (Or.inl ⟨by rfl, ?_⟩) (by assumption) ?_
  rotate_left
  · intro w hSw
    try dsimp only at hSw
    go_simp
    try with_reducible rfl
  simp only [Act.put, List.setIfInBounds_toArray, List.set_cons_zero, List.set_cons_succ]
  refine wpAnyH_take (i := 3) (oi := ⟨some 12, _, _, _, _, _⟩) (v := undef) rfl (by kernel_rfl) (by kernel_rfl) (by kernel_rfl) (fun _ _ _ h => h) (Or.inr ⟨by rfl, rfl⟩) (by assumption) ?_
  simp only [Act.put, List.setIfInBounds_toArray, List.set_cons_zero, List.set_cons_succ]
  refine wpAnyH_take (i := 4) (oi := ⟨some 13, _, _, _, _, _⟩) (v := undef) rfl (by kernel_rfl) (by kernel_rfl) (by kernel_rfl) (fun _ _ _ h => h) (Or.inr ⟨by rfl, rfl⟩) (by assumption) ?_
  simp only [Act.put, List.setIfInBounds_toArray, List.set_cons_zero, List.set_cons_succ]
  refine wpAnyH_take (i := 5) (oi := ⟨some 14, _, _, _, _, _⟩) (v := undef) rfl (by kernel_rfl) (by kernel_rfl) (by kernel_rfl) (fun _ _ _ h => h) (Or.inr ⟨by rfl, rfl⟩) (by assumption) ?_
  simp only [Act.put, List.setIfInBounds_toArray, List.set_cons_zero, List.set_cons_succ]
  refine wpAnyH_take (i := 6) (oi := ⟨some 15, _, _, _, _, _⟩) (v := undef) rfl (by kernel_rfl) (by kernel_rfl) (by kernel_rfl) (fun _ _ _ h => h) (Or.inr ⟨by rfl, rfl⟩) (by assumption) ?_
  simp only [Act.put, List.setIfInBounds_toArray, List.set_cons_zero, List.set_cons_succ]
  refine wpAnyH_take (i := 7) (oi := ⟨some 16, _, _, _, _, _⟩) (v := undef) rfl (by kernel_rfl) (by kernel_rfl) (by kernel_rfl) (fun _ _ _ h => h) (Or.inr ⟨by rfl, rfl⟩) (by assumption) ?_
  simp only [Act.put, List.setIfInBounds_toArray, List.set_cons_zero, List.set_cons_succ]
  refine wpAnyH_take (i := 8) (oi := ⟨some 17, _, _, _, _, _⟩) (v := undef) rfl (by kernel_rfl) (by kernel_rfl) (by kernel_rfl) (fun _ _ _ h => h) (Or.inr ⟨by rfl, rfl⟩) (by assumption) ?_
  simp only [Act.put, List.setIfInBounds_toArray, List.set_cons_zero, List.set_cons_succ]
  refine wpAnyH_take (i := 9) (oi := ⟨some 18, _, _, _, _, _⟩) (v := undef) rfl (by kernel_rfl) (by kernel_rfl) (by kernel_rfl) (fun _ _ _ h => h) (Or.inr ⟨by rfl, rfl⟩) (by assumption) ?_
  simp only [Act.put, List.setIfInBounds_toArray, List.set_cons_zero, List.set_cons_succ]
  refine wpAnyH_take (i := 10) (oi := ⟨some 19, _, _, _, _, _⟩) (v := undef) rfl (by kernel_rfl) (by kernel_rfl) (by kernel_rfl) (fun _ _ _ h => h) (Or.inr ⟨by rfl, rfl⟩) (by assumption) ?_
  simp only [Act.put, List.setIfInBounds_toArray, List.set_cons_zero, List.set_cons_succ]
  refine wpAnyH_take (i := 11) (oi := ⟨some 20, _, _, _, _, _⟩) (v := ?_) rfl (by kernel_rfl) (by kernel_rfl) (by kernel_rfl) (fun _ _ _ h => h) (Or.inl ⟨by rfl, ?_⟩) (by assumption) ?_
  rotate_left
  · intro w hSw
    try dsimp only at hSw
    go_simp
    try with_reducible rfl
  simp only [Act.put, List.setIfInBounds_toArray, List.set_cons_zero, List.set_cons_succ]
  have HE := hidP (hHeld.2.2.2.2.2)
  refine wpAnyH_done (by kernel_rfl) ?_ _
  clear hHeld
  go_wp2_with fail
  go_ret
  exact ⟨rfl, B3.out.trans (HE.out.mono B3.out.size)⟩

set_option maxRecDepth 10000 in
set_option maxHeartbeats 1000000 in
theorem exact_b (pt : Pf) (ap : Option Addr) (np cp : Nat) (ab : Option Addr) (nb cb : Nat) (ps : List Pl) (w : World) (hnp : np = ps.length) (hP : RowG KPl w ap ps) (hlp : np ≤ 9000000000) (j : Nat) (pq : Pl) (hk : lpF pt 0 ps = (j : Int)) (hx : ps[j]? = some pq) (heq : peqB pq.p pt = true) :
    Calls Try.prog 60 #[.agg #[.slice ap np cp, .slice ab nb cb], .agg #[.bool pt.s, .int .i64 pt.H.toInt, .int .i64 pt.L.toInt, .int .i64 pt.b]] w fun e w' => e = .returned (.int .i64 (j)) ∧ Below w.heap.size w w' := by
  have HL := hidP (fun W h => l5Pool_any pt ap np cp ab nb cb ps W hnp (hP.later h) hlp)
  rw [hk] at HL
  have HB := hidP hP
  have HN := hidP hnp
  clear hP hnp
  have hjn : j < np := by
    rw [HN.out]
    rcases Nat.lt_or_ge j ps.length with h' | h'
    · exact h'
    · rw [List.getElem?_eq_none h'] at hx; cases hx
  have wj : IntKind.i64.wrap (j : Int) = (j : Int) := by rw [IntKind.wrap_i64]; omega
  have hj0 : (0 : Int) ≤ (j : Int) := by omega
  have hj1 : (j : Int) < (np : Int) := by omega
  have gj : decide ((0 : Int) ≤ (j : Int)) = true := decide_eq_true (by omega)
  obtain ⟨p, o, x2, rfl, hp, hx2, c0, c1, c2, c3, c4⟩ := rowPl HB.out j (by rw [← HN.out]; exact hjn)
  rw [hx] at hx2
  cases hx2
  have hq := eqPfx pq.p pt
  rw [heq] at hq
  clear hx heq c4 HB
  go_enter Try.func60, Try.ntmps60
  go_wp2_with fail
  obtain ⟨u0, u1⟩ := box2 (u := .slice (some ⟨p, o, none⟩) np cp) (v := .slice ab nb cb) w 32
  have uB := alloc_below w (.cells #[.slice (some ⟨p, o, none⟩) np cp, .slice ab nb cb] 32)
  have uL := alloc_lt w (.cells #[.slice (some ⟨p, o, none⟩) np cp, .slice ab nb cb] 32)
  have uS : (w.alloc (.cells #[.slice (some ⟨p, o, none⟩) np cp, .slice ab nb cb] 32)).heap.size = w.heap.size + 1 := by simp
  generalize w.alloc (.cells #[.slice (some ⟨p, o, none⟩) np cp, .slice ab nb cb] 32) = W1 at *
  obtain ⟨y0, y1, y2, y3⟩ := box4 (p := pt) W1 46
  have yB := alloc_below W1 (.cells #[.bool pt.s, .int .i64 pt.H.toInt, .int .i64 pt.L.toInt, .int .i64 pt.b] 46)
  have yL := alloc_lt W1 (.cells #[.bool pt.s, .int .i64 pt.H.toInt, .int .i64 pt.L.toInt, .int .i64 pt.b] 46)
  have yS : (W1.alloc (.cells #[.bool pt.s, .int .i64 pt.H.toInt, .int .i64 pt.L.toInt, .int .i64 pt.b] 46)).heap.size = W1.heap.size + 1 := by simp
  generalize W1.alloc (.cells #[.bool pt.s, .int .i64 pt.H.toInt, .int .i64 pt.L.toInt, .int .i64 pt.b] 46) = W2 at *
  rw [uS] at y0 y1 y2 y3 yL yS
  have s0 := (yB.cell uL).trans u0
  have sL : w.heap.size < W2.heap.size := by omega
  have HUB := hidP (uB.trans (yB.mono uB.size))
  clear uB yB uS yS u0 u1 uL
  refine (HL.out _ HUB.out).mono ?_
  rintro e w3 ⟨rfl, hb3⟩
  have z0 := (hb3.cell sL).trans s0
  have zL : w.heap.size < w3.heap.size := Nat.lt_of_lt_of_le sL hb3.size
  have r0 := (hb3.cell yL).trans y0
  have r1 := (hb3.cell yL).trans y1
  have r2 := (hb3.cell yL).trans y2
  have r3 := (hb3.cell yL).trans y3
  have rL : w.heap.size + 1 < w3.heap.size := Nat.lt_of_lt_of_le yL hb3.size
  have B3 := hidP (HUB.out.trans (hb3.mono HUB.out.size))
  have d0 := (B3.out.cell hp).trans c0
  have d1 := (B3.out.cell hp).trans c1
  have d2 := (B3.out.cell hp).trans c2
  have d3 := (B3.out.cell hp).trans c3
  have dL : p < w3.heap.size := Nat.lt_of_lt_of_le hp B3.out.size
  clear hb3 s0 y0 y1 y2 y3
  go_wp2_with fail
  have HSx : Hid (∀ x, Below w3.heap.size w3 x → (x.cell? ⟨w.heap.size, 0, none⟩ = some (.slice (some ⟨p, o, none⟩) np cp) ∧ x.cell? ⟨w.heap.size + 1, 0, none⟩ = some (.bool pt.s) ∧ x.cell? ⟨w.heap.size + 1, 1, none⟩ = some (.int .i64 pt.H.toInt) ∧ x.cell? ⟨w.heap.size + 1, 2, none⟩ = some (.int .i64 pt.L.toInt) ∧ x.cell? ⟨w.heap.size + 1, 3, none⟩ = some (.int .i64 pt.b) ∧ x.cell? ⟨p, o + j * 5, none⟩ = some (.bool pq.p.s) ∧ x.cell? ⟨p, o + j * 5 + 1, none⟩ = some (.int .i64 pq.p.H.toInt) ∧ x.cell? ⟨p, o + j * 5 + 2, none⟩ = some (.int .i64 pq.p.L.toInt) ∧ x.cell? ⟨p, o + j * 5 + 3, none⟩ = some (.int .i64 pq.p.b) ∧ Below w3.heap.size w3 x)) := hidP fun x h =>
    ⟨(h.cell zL).trans z0, (h.cell rL).trans r0, (h.cell rL).trans r1, (h.cell rL).trans r2, (h.cell rL).trans r3, (h.cell dL).trans d0, (h.cell dL).trans d1, (h.cell dL).trans d2, (h.cell dL).trans d3, h⟩
  refine wp_region_held_drew (S := (fun x => x.cell? ⟨w.heap.size, 0, none⟩ = some (.slice (some ⟨p, o, none⟩) np cp) ∧ x.cell? ⟨w.heap.size + 1, 0, none⟩ = some (.bool pt.s) ∧ x.cell? ⟨w.heap.size + 1, 1, none⟩ = some (.int .i64 pt.H.toInt) ∧ x.cell? ⟨w.heap.size + 1, 2, none⟩ = some (.int .i64 pt.L.toInt) ∧ x.cell? ⟨w.heap.size + 1, 3, none⟩ = some (.int .i64 pt.b) ∧ x.cell? ⟨p, o + j * 5, none⟩ = some (.bool pq.p.s) ∧ x.cell? ⟨p, o + j * 5 + 1, none⟩ = some (.int .i64 pq.p.H.toInt) ∧ x.cell? ⟨p, o + j * 5 + 2, none⟩ = some (.int .i64 pq.p.L.toInt) ∧ x.cell? ⟨p, o + j * 5 + 3, none⟩ = some (.int .i64 pq.p.b) ∧ Below w3.heap.size w3 x)) (by kernel_rfl) ?_ (fun hHeld => ?_)
  · try dsimp only
    exact HSx.out _ ((Below.refl _ _).drew)
  refine wpAnyH_take (i := 0) (oi := ⟨some 9, _, _, _, _, _⟩) (v := ?_) rfl (by kernel_rfl) (by kernel_rfl) (by kernel_rfl) (fun _ _ _ h => h) (Or.inl ⟨by rfl, ?_⟩) (by assumption) ?_
  rotate_left
  · intro w hSw
    try dsimp only at hSw
    go_simp
    try with_reducible rfl
  simp only [Act.put, List.setIfInBounds_toArray, List.set_cons_zero, List.set_cons_succ]
  refine wpAnyH_take (i := 1) (oi := ⟨some 10, _, _, _, _, _⟩) (v := ?_) rfl (by kernel_rfl) (by kernel_rfl) (by kernel_rfl) (fun _ _ _ h => h) (Or.inl ⟨by rfl, ?_⟩) (by assumption) ?_
  rotate_left
  · intro w hSw
    try dsimp only at hSw
    go_simp
    try with_reducible rfl
  simp only [Act.put, List.setIfInBounds_toArray, List.set_cons_zero, List.set_cons_succ]
  refine wpAnyH_take (i := 2) (oi := ⟨some 11, _, _, _, _, _⟩) (v := ?_) rfl (by kernel_rfl) (by kernel_rfl) (by kernel_rfl) (fun _ _ _ h => h) (Or.inl ⟨by rfl, ?_⟩) (by assumption) ?_
  rotate_left
  · intro w hSw
    try dsimp only at hSw
    go_simp
    try with_reducible rfl
  simp only [Act.put, List.setIfInBounds_toArray, List.set_cons_zero, List.set_cons_succ]
  refine wpAnyH_take (i := 3) (oi := ⟨some 12, _, _, _, _, _⟩) (v := ?_) rfl (by kernel_rfl) (by kernel_rfl) (by kernel_rfl) (fun _ _ _ h => h) (Or.inl ⟨by rfl, ?_⟩) (by assumption) ?_
  rotate_left
  · intro w hSw
    try dsimp only at hSw
    go_simp
    try with_reducible rfl
  simp only [Act.put, List.setIfInBounds_toArray, List.set_cons_zero, List.set_cons_succ]
  refine wpAnyH_take (i := 4) (oi := ⟨some 13, _, _, _, _, _⟩) (v := ?_) rfl (by kernel_rfl) (by kernel_rfl) (by kernel_rfl) (fun _ _ _ h => h) (Or.inl ⟨by rfl, ?_⟩) (by assumption) ?_
  rotate_left
  · intro w hSw
    try dsimp only at hSw
    go_simp
    try with_reducible rfl
  simp only [Act.put, List.setIfInBounds_toArray, List.set_cons_zero, List.set_cons_succ]
  refine wpAnyH_take (i := 5) (oi := ⟨some 14, _, _, _, _, _⟩) (v := ?_) rfl (by kernel_rfl) (by kernel_rfl) (by kernel_rfl) (fun _ _ _ h => h) (Or.inl ⟨by rfl, ?_⟩) (by assumption) ?_
  rotate_left
  · intro w hSw
    try dsimp only at hSw
    go_simp
    try with_reducible rfl
  simp only [Act.put, List.setIfInBounds_toArray, List.set_cons_zero, List.set_cons_succ]
  refine wpAnyH_take (i := 6) (oi := ⟨some 15, _, _, _, _, _⟩) (v := ?_) rfl (by kernel_rfl) (by kernel_rfl) (by kernel_rfl) (fun _ _ _ h => h) (Or.inl ⟨by rfl, ?_⟩) (by assumption) ?_
  rotate_left
  · intro w hSw
    try dsimp only at hSw
    go_simp
    try with_reducible rfl
  simp only [Act.put, List.setIfInBounds_toArray, List.set_cons_zero, List.set_cons_succ]
  refine wpAnyH_take (i := 7) (oi := ⟨some 16, _, _, _, _, _⟩) (v := ?_) rfl (by kernel_rfl) (by kernel_rfl) (by kernel_rfl) (fun _ _ _ h => h) (Or.inl ⟨by rfl, ?_⟩) (by assumption) ?_
  rotate_left
  · intro w hSw
    try dsimp only at hSw
    go_simp
    try with_reducible rfl
  simp only [Act.put, List.setIfInBounds_toArray, List.set_cons_zero, List.set_cons_succ]
  refine wpAnyH_take (i := 8) (oi := ⟨some 17, _, _, _, _, _⟩) (v := ?_) rfl (by kernel_rfl) (by kernel_rfl) (by kernel_rfl) (fun _ _ _ h => h) (Or.inl ⟨by rfl, ?_⟩) (by assumption) ?_
  rotate_left
  · intro w hSw
    try dsimp only at hSw
    go_simp
    try with_reducible rfl
  simp only [Act.put, List.setIfInBounds_toArray, List.set_cons_zero, List.set_cons_succ]
  refine wpAnyH_take (i := 9) (oi := ⟨some 18, _, _, _, _, _⟩) (v := ?_) rfl (by kernel_rfl) (by kernel_rfl) (by kernel_rfl) (fun _ _ _ h => h) (Or.inl ⟨by rfl, ?_⟩) (by assumption) ?_
  rotate_left
  · intro w hSw
    try dsimp only at hSw
    go_simp
    try with_reducible rfl
  simp only [Act.put, List.setIfInBounds_toArray, List.set_cons_zero, List.set_cons_succ]
  refine wpAnyH_take (i := 10) (oi := ⟨some 19, _, _, _, _, _⟩) (v := ?_) rfl (by kernel_rfl) (by kernel_rfl) (by kernel_rfl) (fun _ _ _ h => h) (Or.inl ⟨by rfl, ?_⟩) (by assumption) ?_
  rotate_left
  · intro w hSw
    try dsimp only at hSw
    go_simp
    try with_reducible rfl
  simp only [Act.put, List.setIfInBounds_toArray, List.set_cons_zero, List.set_cons_succ]
  refine wpAnyH_take (i := 11) (oi := ⟨some 20, _, _, _, _, _⟩) (v := ?_) rfl (by kernel_rfl) (by kernel_rfl) (by kernel_rfl) (fun _ _ _ h => h) (Or.inl ⟨by rfl, ?_⟩) (by assumption) ?_
  rotate_left
  · intro w hSw
    try dsimp only at hSw
    go_simp
    try with_reducible rfl
  simp only [Act.put, List.setIfInBounds_toArray, List.set_cons_zero, List.set_cons_succ]
  have HE := hidP (hHeld.2.2.2.2.2.2.2.2.2)
  refine wpAnyH_done (by kernel_rfl) ?_ _
  clear hHeld
  go_wp2_with fail
  go_ret
  exact ⟨rfl, B3.out.trans (HE.out.mono B3.out.size)⟩

set_option maxRecDepth 10000 in
set_option maxHeartbeats 1000000 in
theorem exact_c (pt : Pf) (ap : Option Addr) (np cp : Nat) (ab : Option Addr) (nb cb : Nat) (ps : List Pl) (w : World) (hnp : np = ps.length) (hP : RowG KPl w ap ps) (hlp : np ≤ 9000000000) (j : Nat) (pq : Pl) (hk : lpF pt 0 ps = (j : Int)) (hx : ps[j]? = some pq) (heq : peqB pq.p pt = false) :
    Calls Try.prog 60 #[.agg #[.slice ap np cp, .slice ab nb cb], .agg #[.bool pt.s, .int .i64 pt.H.toInt, .int .i64 pt.L.toInt, .int .i64 pt.b]] w fun e w' => e = .returned (.int .i64 (-1)) ∧ Below w.heap.size w w' := by
  have HL := hidP (fun W h => l5Pool_any pt ap np cp ab nb cb ps W hnp (hP.later h) hlp)
  rw [hk] at HL
  have HB := hidP hP
  have HN := hidP hnp
  clear hP hnp
  have hjn : j < np := by
    rw [HN.out]
    rcases Nat.lt_or_ge j ps.length with h' | h'
    · exact h'
    · rw [List.getElem?_eq_none h'] at hx; cases hx
  have wj : IntKind.i64.wrap (j : Int) = (j : Int) := by rw [IntKind.wrap_i64]; omega
  have hj0 : (0 : Int) ≤ (j : Int) := by omega
  have hj1 : (j : Int) < (np : Int) := by omega
  have gj : decide ((0 : Int) ≤ (j : Int)) = true := decide_eq_true (by omega)
  obtain ⟨p, o, x2, rfl, hp, hx2, c0, c1, c2, c3, c4⟩ := rowPl HB.out j (by rw [← HN.out]; exact hjn)
  rw [hx] at hx2
  cases hx2
  have hq := eqPfx pq.p pt
  rw [heq] at hq
  clear hx heq c4 HB
  go_enter Try.func60, Try.ntmps60
  go_wp2_with fail
  obtain ⟨u0, u1⟩ := box2 (u := .slice (some ⟨p, o, none⟩) np cp) (v := .slice ab nb cb) w 32
  have uB := alloc_below w (.cells #[.slice (some ⟨p, o, none⟩) np cp, .slice ab nb cb] 32)
  have uL := alloc_lt w (.cells #[.slice (some ⟨p, o, none⟩) np cp, .slice ab nb cb] 32)
  have uS : (w.alloc (.cells #[.slice (some ⟨p, o, none⟩) np cp, .slice ab nb cb] 32)).heap.size = w.heap.size + 1 := by simp
  generalize w.alloc (.cells #[.slice (some ⟨p, o, none⟩) np cp, .slice ab nb cb] 32) = W1 at *
  obtain ⟨y0, y1, y2, y3⟩ := box4 (p := pt) W1 46
  have yB := alloc_below W1 (.cells #[.bool pt.s, .int .i64 pt.H.toInt, .int .i64 pt.L.toInt, .int .i64 pt.b] 46)
  have yL := alloc_lt W1 (.cells #[.bool pt.s, .int .i64 pt.H.toInt, .int .i64 pt.L.toInt, .int .i64 pt.b] 46)
  have yS : (W1.alloc (.cells #[.bool pt.s, .int .i64 pt.H.toInt, .int .i64 pt.L.toInt, .int .i64 pt.b] 46)).heap.size = W1.heap.size + 1 := by simp
  generalize W1.alloc (.cells #[.bool pt.s, .int .i64 pt.H.toInt, .int .i64 pt.L.toInt, .int .i64 pt.b] 46) = W2 at *
  rw [uS] at y0 y1 y2 y3 yL yS
  have s0 := (yB.cell uL).trans u0
  have sL : w.heap.size < W2.heap.size := by omega
  have HUB := hidP (uB.trans (yB.mono uB.size))
  clear uB yB uS yS u0 u1 uL
  refine (HL.out _ HUB.out).mono ?_
  rintro e w3 ⟨rfl, hb3⟩
  have z0 := (hb3.cell sL).trans s0
  have zL : w.heap.size < w3.heap.size := Nat.lt_of_lt_of_le sL hb3.size
  have r0 := (hb3.cell yL).trans y0
  have r1 := (hb3.cell yL).trans y1
  have r2 := (hb3.cell yL).trans y2
  have r3 := (hb3.cell yL).trans y3
  have rL : w.heap.size + 1 < w3.heap.size := Nat.lt_of_lt_of_le yL hb3.size
  have B3 := hidP (HUB.out.trans (hb3.mono HUB.out.size))
  have d0 := (B3.out.cell hp).trans c0
  have d1 := (B3.out.cell hp).trans c1
  have d2 := (B3.out.cell hp).trans c2
  have d3 := (B3.out.cell hp).trans c3
  have dL : p < w3.heap.size := Nat.lt_of_lt_of_le hp B3.out.size
  clear hb3 s0 y0 y1 y2 y3
  go_wp2_with fail
  have HSx : Hid (∀ x, Below w3.heap.size w3 x → (x.cell? ⟨w.heap.size, 0, none⟩ = some (.slice (some ⟨p, o, none⟩) np cp) ∧ x.cell? ⟨w.heap.size + 1, 0, none⟩ = some (.bool pt.s) ∧ x.cell? ⟨w.heap.size + 1, 1, none⟩ = some (.int .i64 pt.H.toInt) ∧ x.cell? ⟨w.heap.size + 1, 2, none⟩ = some (.int .i64 pt.L.toInt) ∧ x.cell? ⟨w.heap.size + 1, 3, none⟩ = some (.int .i64 pt.b) ∧ x.cell? ⟨p, o + j * 5, none⟩ = some (.bool pq.p.s) ∧ x.cell? ⟨p, o + j * 5 + 1, none⟩ = some (.int .i64 pq.p.H.toInt) ∧ x.cell? ⟨p, o + j * 5 + 2, none⟩ = some (.int .i64 pq.p.L.toInt) ∧ x.cell? ⟨p, o + j * 5 + 3, none⟩ = some (.int .i64 pq.p.b) ∧ Below w3.heap.size w3 x)) := hidP fun x h =>
    ⟨(h.cell zL).trans z0, (h.cell rL).trans r0, (h.cell rL).trans r1, (h.cell rL).trans r2, (h.cell rL).trans r3, (h.cell dL).trans d0, (h.cell dL).trans d1, (h.cell dL).trans d2, (h.cell dL).trans d3, h⟩
  refine wp_region_held_drew (S := (fun x => x.cell? ⟨w.heap.size, 0, none⟩ = some (.slice (some ⟨p, o, none⟩) np cp) ∧ x.cell? ⟨w.heap.size + 1, 0, none⟩ = some (.bool pt.s) ∧ x.cell? ⟨w.heap.size + 1, 1, none⟩ = some (.int .i64 pt.H.toInt) ∧ x.cell? ⟨w.heap.size + 1, 2, none⟩ = some (.int .i64 pt.L.toInt) ∧ x.cell? ⟨w.heap.size + 1, 3, none⟩ = some (.int .i64 pt.b) ∧ x.cell? ⟨p, o + j * 5, none⟩ = some (.bool pq.p.s) ∧ x.cell? ⟨p, o + j * 5 + 1, none⟩ = some (.int .i64 pq.p.H.toInt) ∧ x.cell? ⟨p, o + j * 5 + 2, none⟩ = some (.int .i64 pq.p.L.toInt) ∧ x.cell? ⟨p, o + j * 5 + 3, none⟩ = some (.int .i64 pq.p.b) ∧ Below w3.heap.size w3 x)) (by kernel_rfl) ?_ (fun hHeld => ?_)
  · try dsimp only
    exact HSx.out _ ((Below.refl _ _).drew)
  refine wpAnyH_take (i := 0) (oi := ⟨some 9, _, _, _, _, _⟩) (v := ?_) rfl (by kernel_rfl) (by kernel_rfl) (by kernel_rfl) (fun _ _ _ h => h) (Or.inl ⟨by rfl, ?_⟩) (by assumption) ?_
  rotate_left
  · intro w hSw
    try dsimp only at hSw
    go_simp
    try with_reducible rfl
  simp only [Act.put, List.setIfInBounds_toArray, List.set_cons_zero, List.set_cons_succ]
  refine wpAnyH_take (i := 1) (oi := ⟨some 10, _, _, _, _, _⟩) (v := ?_) rfl (by kernel_rfl) (by kernel_rfl) (by kernel_rfl) (fun _ _ _ h => h) (Or.inl ⟨by rfl, ?_⟩) (by assumption) ?_
  rotate_left
  · intro w hSw
    try dsimp only at hSw
    go_simp
    try with_reducible rfl
  simp only [Act.put, List.setIfInBounds_toArray, List.set_cons_zero, List.set_cons_succ]
  refine wpAnyH_take (i := 2) (oi := ⟨some 11, _, _, _, _, _⟩) (v := ?_) rfl (by kernel_rfl) (by kernel_rfl) (by kernel_rfl) (fun _ _ _ h => h) (Or.inl ⟨by rfl, ?_⟩) (by assumption) ?_
  rotate_left
  · intro w hSw
    try dsimp only at hSw
    go_simp
    try with_reducible rfl
  simp only [Act.put, List.setIfInBounds_toArray, List.set_cons_zero, List.set_cons_succ]
  refine wpAnyH_take (i := 3) (oi := ⟨some 12, _, _, _, _, _⟩) (v := ?_) rfl (by kernel_rfl) (by kernel_rfl) (by kernel_rfl) (fun _ _ _ h => h) (Or.inl ⟨by rfl, ?_⟩) (by assumption) ?_
  rotate_left
  · intro w hSw
    try dsimp only at hSw
    go_simp
    try with_reducible rfl
  simp only [Act.put, List.setIfInBounds_toArray, List.set_cons_zero, List.set_cons_succ]
  refine wpAnyH_take (i := 4) (oi := ⟨some 13, _, _, _, _, _⟩) (v := ?_) rfl (by kernel_rfl) (by kernel_rfl) (by kernel_rfl) (fun _ _ _ h => h) (Or.inl ⟨by rfl, ?_⟩) (by assumption) ?_
  rotate_left
  · intro w hSw
    try dsimp only at hSw
    go_simp
    try with_reducible rfl
  simp only [Act.put, List.setIfInBounds_toArray, List.set_cons_zero, List.set_cons_succ]
  refine wpAnyH_take (i := 5) (oi := ⟨some 14, _, _, _, _, _⟩) (v := ?_) rfl (by kernel_rfl) (by kernel_rfl) (by kernel_rfl) (fun _ _ _ h => h) (Or.inl ⟨by rfl, ?_⟩) (by assumption) ?_
  rotate_left
  · intro w hSw
    try dsimp only at hSw
    go_simp
    try with_reducible rfl
  simp only [Act.put, List.setIfInBounds_toArray, List.set_cons_zero, List.set_cons_succ]
  refine wpAnyH_take (i := 6) (oi := ⟨some 15, _, _, _, _, _⟩) (v := ?_) rfl (by kernel_rfl) (by kernel_rfl) (by kernel_rfl) (fun _ _ _ h => h) (Or.inl ⟨by rfl, ?_⟩) (by assumption) ?_
  rotate_left
  · intro w hSw
    try dsimp only at hSw
    go_simp
    try with_reducible rfl
  simp only [Act.put, List.setIfInBounds_toArray, List.set_cons_zero, List.set_cons_succ]
  refine wpAnyH_take (i := 7) (oi := ⟨some 16, _, _, _, _, _⟩) (v := ?_) rfl (by kernel_rfl) (by kernel_rfl) (by kernel_rfl) (fun _ _ _ h => h) (Or.inl ⟨by rfl, ?_⟩) (by assumption) ?_
  rotate_left
  · intro w hSw
    try dsimp only at hSw
    go_simp
    try with_reducible rfl
  simp only [Act.put, List.setIfInBounds_toArray, List.set_cons_zero, List.set_cons_succ]
  refine wpAnyH_take (i := 8) (oi := ⟨some 17, _, _, _, _, _⟩) (v := ?_) rfl (by kernel_rfl) (by kernel_rfl) (by kernel_rfl) (fun _ _ _ h => h) (Or.inl ⟨by rfl, ?_⟩) (by assumption) ?_
  rotate_left
  · intro w hSw
    try dsimp only at hSw
    go_simp
    try with_reducible rfl
  simp only [Act.put, List.setIfInBounds_toArray, List.set_cons_zero, List.set_cons_succ]
  refine wpAnyH_take (i := 9) (oi := ⟨some 18, _, _, _, _, _⟩) (v := ?_) rfl (by kernel_rfl) (by kernel_rfl) (by kernel_rfl) (fun _ _ _ h => h) (Or.inl ⟨by rfl, ?_⟩) (by assumption) ?_
  rotate_left
  · intro w hSw
    try dsimp only at hSw
    go_simp
    try with_reducible rfl
  simp only [Act.put, List.setIfInBounds_toArray, List.set_cons_zero, List.set_cons_succ]
  refine wpAnyH_take (i := 10) (oi := ⟨some 19, _, _, _, _, _⟩) (v := ?_) rfl (by kernel_rfl) (by kernel_rfl) (by kernel_rfl) (fun _ _ _ h => h) (Or.inl ⟨by rfl, ?_⟩) (by assumption) ?_
  rotate_left
  · intro w hSw
    try dsimp only at hSw
    go_simp
    try with_reducible rfl
  simp only [Act.put, List.setIfInBounds_toArray, List.set_cons_zero, List.set_cons_succ]
  refine wpAnyH_take (i := 11) (oi := ⟨some 20, _, _, _, _, _⟩) (v := ?_) rfl (by kernel_rfl) (by kernel_rfl) (by kernel_rfl) (fun _ _ _ h => h) (Or.inl ⟨by rfl, ?_⟩) (by assumption) ?_
  rotate_left
  · intro w hSw
    try dsimp only at hSw
    go_simp
    try with_reducible rfl
  simp only [Act.put, List.setIfInBounds_toArray, List.set_cons_zero, List.set_cons_succ]
  have HE := hidP (hHeld.2.2.2.2.2.2.2.2.2)
  refine wpAnyH_done (by kernel_rfl) ?_ _
  clear hHeld
  go_wp2_with fail
  go_ret
  exact ⟨rfl, B3.out.trans (HE.out.mono B3.out.size)⟩

/-- What is a pool's own prefix lies in it alone. -/
theorem win_self {p : Pf} (h : p.pk = true) : winP p p = true := by
  have hz : 0 < 2 ^ p.sz := Nat.pow_pos (by omega)
  exact (win_iff h h).2 ⟨rfl, Int.le_refl _, Nat.le_refl _, by omega⟩
theorem plc_shift (p : Pf) : ∀ (ps : List Pl) (i : Nat), (∀ q ∈ ps, peqB q.p p = false) → ixF (fun q => peqB q.p p) i ps = -1
  | [], _, _ => rfl
  | q :: t, i, h => by
      unfold ixF
      rw [h q List.mem_cons_self, if_neg (by simp)]
      exact plc_shift p t (i + 1) (fun x hx => h x (List.mem_cons_of_mem _ hx))
theorem plc_exact (p : Pf) (hp : p.pk = true) : ∀ (ps : List Pl) (i : Nat), Dsj ps →
    (lpF p i ps = -1 ∧ ixF (fun q => peqB q.p p) i ps = -1) ∨ ∃ j x, lpF p i ps = ((i + j : Nat) : Int) ∧ ps[j]? = some x ∧ ixF (fun q => peqB q.p p) i ps = if peqB x.p p = true then ((i + j : Nat) : Int) else -1
  | [], _, _ => Or.inl ⟨rfl, rfl⟩
  | q :: t, i, hd => by
      have hpw := List.pairwise_cons.1 hd.1
      unfold lpF ixF
      by_cases hw : winP p q.p = true
      · rw [if_pos hw]
        refine Or.inr ⟨0, q, rfl, rfl, ?_⟩
        cases he : peqB q.p p
        · rw [if_neg (by simp), if_neg (by simp)]
          refine plc_shift p t (i + 1) (fun x hx => ?_)
          cases hx2 : peqB x.p p
          · rfl
          · exfalso
            have hxe := peq_iff.1 hx2
            have hxw : winP p x.p = true := by rw [hxe]; exact win_self hp
            exact fol_not hw hxw (hpw.1 x hx)
        · rw [if_pos rfl, if_pos rfl]; rfl
      · have he : peqB q.p p = false := by
          cases he : peqB q.p p
          · rfl
          · exfalso; apply hw; rw [peq_iff.1 he]; exact win_self hp
        rw [if_neg hw, he, if_neg (by simp)]
        rcases plc_exact p hp t (i + 1) ⟨hpw.2, fun x hx => hd.2 x (List.mem_cons_of_mem _ hx)⟩ with ⟨h1, h2⟩ | ⟨j, x, h1, h2, h3⟩
        · exact Or.inl ⟨h1, h2⟩
        · refine Or.inr ⟨j + 1, x, ?_, by simpa using h2, ?_⟩
          · rw [show ((i : Int) + 1) = ((i + 1 : Nat) : Int) by omega, h1]; congr 1; omega
          · rw [show ((i : Int) + 1) = ((i + 1 : Nat) : Int) by omega, h3, show i + 1 + j = i + (j + 1) by omega]
theorem l5Exact_any (pt : Pf) (hpk : pt.pk = true) (ap : Option Addr) (np cp : Nat) (ab : Option Addr) (nb cb : Nat) (ps : List Pl) (hd : Dsj ps) (w : World) (hnp : np = ps.length) (hP : RowG KPl w ap ps) (hlp : np ≤ 9000000000) :
    Calls Try.prog 60 #[.agg #[.slice ap np cp, .slice ab nb cb], .agg #[.bool pt.s, .int .i64 pt.H.toInt, .int .i64 pt.L.toInt, .int .i64 pt.b]] w fun e w' => e = .returned (.int .i64 (plc pt ps)) ∧ Below w.heap.size w w' := by
  unfold plc
  rcases plc_exact pt hpk ps 0 hd with ⟨h1, h2⟩ | ⟨j, x, h1, h2, h3⟩
  · have h2' : ixF (fun q => peqB q.p pt) 0 ps = -1 := h2
    rw [h2']
    exact exact_a pt ap np cp ab nb cb ps w hnp hP hlp h1
  · rw [Nat.zero_add] at h1 h3
    have h3' : ixF (fun q => peqB q.p pt) 0 ps = if peqB x.p pt = true then (j : Int) else -1 := h3
    rw [h3']
    cases he : peqB x.p pt
    · rw [if_neg (by simp)]
      exact exact_c pt ap np cp ab nb cb ps w hnp hP hlp j x h1 h2 he
    · rw [if_pos rfl]
      exact exact_b pt ap np cp ab nb cb ps w hnp hP hlp j x h1 h2 he

end Go.Proofs.Ythbpehpnikknlaa

namespace Go.Proofs.Ythbpehpnikknlaa
open Go.RowKit

/-- The prefixes of the blocks that lie in p. -/
def fil (bs : List Bk) (p : Pf) : List Pf := (bs.filter fun b => winP b.p p).map (·.p)
theorem fil_snoc (bs : List Bk) (p : Pf) (k : Nat) (q : Bk) (h : bs[k]? = some q) : fil (bs.take (k + 1)) p = fil (bs.take k) p ++ (if winP q.p p = true then [q.p] else []) := by
  unfold fil
  rw [List.take_add_one, h, List.filter_append, List.map_append]
  congr 1
  simp only [Option.toList_some]
  cases hw : winP q.p p <;> simp [hw]
theorem fil_len (bs : List Bk) (p : Pf) (k : Nat) : (fil (bs.take k) p).length ≤ k := by
  unfold fil
  rw [List.length_map]
  have := List.length_filter_le (fun b => winP b.p p) (bs.take k)
  rw [List.length_take] at this; omega

set_option maxRecDepth 10000 in
set_option maxHeartbeats 2000000 in
theorem blocksIn_any (pt : Pf) (ap : Option Addr) (np cp : Nat) (ab : Option Addr) (nb cb : Nat) (bs : List Bk) (w : World) (hnb : nb = bs.length) (hK : RowG KBk w ab bs) (hl : nb ≤ 1048576) :
    Calls Try.prog 64 #[.agg #[.slice ap np cp, .slice ab nb cb], .agg #[.bool pt.s, .int .i64 pt.H.toInt, .int .i64 pt.L.toInt, .int .i64 pt.b]] w fun e w' => ∃ a c, e = .returned (.slice a (fil bs pt).length c) ∧ OwnR 46 w' w.heap.size (.slice a (fil bs pt).length c) (fil bs pt) ∧ Below w.heap.size w w' := by
  have HBK := hidP hK
  have HN := hidP hnb
  clear hK hnb
  go_enter Try.func64, Try.ntmps64
  go_wp2_with fail
  obtain ⟨u0, u1⟩ := box2 (u := .slice ap np cp) (v := .slice ab nb cb) w 32
  have uB := alloc_below w (.cells #[.slice ap np cp, .slice ab nb cb] 32)
  have uL := alloc_lt w (.cells #[.slice ap np cp, .slice ab nb cb] 32)
  have uS : (w.alloc (.cells #[.slice ap np cp, .slice ab nb cb] 32)).heap.size = w.heap.size + 1 := by simp
  generalize w.alloc (.cells #[.slice ap np cp, .slice ab nb cb] 32) = W1 at *
  obtain ⟨y0, y1, y2, y3⟩ := box4 (p := pt) W1 46
  have yB := alloc_below W1 (.cells #[.bool pt.s, .int .i64 pt.H.toInt, .int .i64 pt.L.toInt, .int .i64 pt.b] 46)
  have yL := alloc_lt W1 (.cells #[.bool pt.s, .int .i64 pt.H.toInt, .int .i64 pt.L.toInt, .int .i64 pt.b] 46)
  have yS : (W1.alloc (.cells #[.bool pt.s, .int .i64 pt.H.toInt, .int .i64 pt.L.toInt, .int .i64 pt.b] 46)).heap.size = W1.heap.size + 1 := by simp
  generalize W1.alloc (.cells #[.bool pt.s, .int .i64 pt.H.toInt, .int .i64 pt.L.toInt, .int .i64 pt.b] 46) = W2 at *
  rw [uS] at y0 y1 y2 y3 yL yS
  have s1 := (yB.cell uL).trans u1
  have sL : w.heap.size < W2.heap.size := by omega
  have HUB := hidP (uB.trans (yB.mono uB.size))
  have HK2 := hidP (HBK.out.later HUB.out)
  have hs2 : w.heap.size + 1 + 1 = W2.heap.size := by omega
  clear uB yB uS yS u0 u1 HBK uL
  clear hs2
  go_loopw [5, 7, 11] (fun t5 _ t11 wr => ∃ (k m : Nat) (ad : Option Addr) (c : Nat), k ≤ nb ∧ t11 = .int .i64 k ∧ t5 = .slice ad m c ∧ m = (fil (bs.take k) pt).length ∧ OwnR 46 wr W2.heap.size (.slice ad m c) (fil (bs.take k) pt) ∧ Below W2.heap.size W2 wr) (fun _ _ t11 _ => nb - (intOf t11).toNat)
  case atStart => exact ⟨0, 0, none, 0, Nat.zero_le _, rfl, rfl, rfl, own_none _ _ _, Below.refl _ _⟩
  case round =>
    obtain ⟨k, m, ad, c, hk, rfl, rfl, hm, hown, hbel⟩ := hrel
    have HM := hidP hm
    have HO := hidP hown
    have HBel := hidP hbel
    have hmk : m ≤ k := by rw [hm]; exact fil_len bs pt k
    by_cases hlt : k < nb
    · obtain ⟨p, o, q, rfl, hp, hq, c0, c1, c2, c3, c4⟩ := rowBk HK2.out k (by rw [← HN.out]; exact hlt)
      have d0 := (hbel.cell hp).trans c0
      have d1 := (hbel.cell hp).trans c1
      have d2 := (hbel.cell hp).trans c2
      have d3 := (hbel.cell hp).trans c3
      have d4 := (hbel.cell hp).trans c4
      have r0 := (hbel.cell yL).trans y0
      have r1 := (hbel.cell yL).trans y1
      have r2 := (hbel.cell yL).trans y2
      have r3 := (hbel.cell yL).trans y3
      have rL : w.heap.size + 1 < wr.heap.size := Nat.lt_of_lt_of_le yL hbel.size
      have hWr : W2.heap.size ≤ wr.heap.size := hbel.size
      have HSn := hidP (fil_snoc bs pt k q hq)
      have HWi := hidP (iWithin_any q.p.s q.p.H q.p.L q.p.b pt.s pt.H pt.L pt.b)
      change Hid (∀ w, Calls Try.prog 89 _ w fun e w' => e = .returned (.bool (winP q.p pt)) ∧ Below w.heap.size w w') at HWi
      clear c0 c1 c2 c3 c4 hq hbel hown hm
      cases hw : winP q.p pt
      · rw [hw] at HWi HSn
        go_wp2_with fail
        obtain ⟨x0, x1, x2, x3, x4⟩ := boxBk (q := q) wr 56
        have xB := alloc_below wr (.cells #[.bool q.p.s, .int .i64 q.p.H.toInt, .int .i64 q.p.L.toInt, .int .i64 q.p.b, .string q.t] 56)
        have xL := alloc_lt wr (.cells #[.bool q.p.s, .int .i64 q.p.H.toInt, .int .i64 q.p.L.toInt, .int .i64 q.p.b, .string q.t] 56)
        have xS : (wr.alloc (.cells #[.bool q.p.s, .int .i64 q.p.H.toInt, .int .i64 q.p.L.toInt, .int .i64 q.p.b, .string q.t] 56)).heap.size = wr.heap.size + 1 := by simp
        generalize wr.alloc (.cells #[.bool q.p.s, .int .i64 q.p.H.toInt, .int .i64 q.p.L.toInt, .int .i64 q.p.b, .string q.t] 56) = W3 at *
        have HX3 := hidP xB
        clear xB xS
        refine (HWi.out _).mono ?_
        rintro e w4 ⟨rfl, hb4⟩
        have e0 := (hb4.cell xL).trans x0
        have e1 := (hb4.cell xL).trans x1
        have e2 := (hb4.cell xL).trans x2
        have e3 := (hb4.cell xL).trans x3
        have e4 := (hb4.cell xL).trans x4
        have hr4 : Below wr.heap.size wr w4 := HX3.out.trans (hb4.mono HX3.out.size)
        have HB4 := hidP (HBel.out.trans (hr4.mono HBel.out.size))
        have HO4 := hidP (HO.out.later hr4)
        have hW4 : W2.heap.size ≤ w4.heap.size := Nat.le_trans hWr hr4.size
        clear hb4 hr4 x0 x1 x2 x3 x4 d0 d1 d2 d3 d4
        go_wp2_with fail
        go_roundw
        case rel => exact ⟨k + 1, m, ad, c, by omega, by go_num, rfl, by rw [HSn.out]; simpa using HM.out, by rw [HSn.out]; simpa using HO4.out, HB4.out⟩
        case measure => simp [intOf]; omega
      · rw [hw] at HWi HSn
        rw [if_pos rfl] at HSn
        go_wp2_with fail
        obtain ⟨x0, x1, x2, x3, x4⟩ := boxBk (q := q) wr 56
        have xB := alloc_below wr (.cells #[.bool q.p.s, .int .i64 q.p.H.toInt, .int .i64 q.p.L.toInt, .int .i64 q.p.b, .string q.t] 56)
        have xL := alloc_lt wr (.cells #[.bool q.p.s, .int .i64 q.p.H.toInt, .int .i64 q.p.L.toInt, .int .i64 q.p.b, .string q.t] 56)
        have xS : (wr.alloc (.cells #[.bool q.p.s, .int .i64 q.p.H.toInt, .int .i64 q.p.L.toInt, .int .i64 q.p.b, .string q.t] 56)).heap.size = wr.heap.size + 1 := by simp
        generalize wr.alloc (.cells #[.bool q.p.s, .int .i64 q.p.H.toInt, .int .i64 q.p.L.toInt, .int .i64 q.p.b, .string q.t] 56) = W3 at *
        have HX3 := hidP xB
        clear xB xS
        refine (HWi.out _).mono ?_
        rintro e w4 ⟨rfl, hb4⟩
        have e0 := (hb4.cell xL).trans x0
        have e1 := (hb4.cell xL).trans x1
        have e2 := (hb4.cell xL).trans x2
        have e3 := (hb4.cell xL).trans x3
        have e4 := (hb4.cell xL).trans x4
        have hr4 : Below wr.heap.size wr w4 := HX3.out.trans (hb4.mono HX3.out.size)
        have HB4 := hidP (HBel.out.trans (hr4.mono HBel.out.size))
        have HO4 := hidP (HO.out.later hr4)
        have hW4 : W2.heap.size ≤ w4.heap.size := Nat.le_trans hWr hr4.size
        clear hb4 hr4 x0 x1 x2 x3 x4 d0 d1 d2 d3 d4
        go_wp2_with (at_builtin; refine wpList_appR Try.fourP _ rfl (.tmp 19) (.tmp 22) 86 rfl W2.heap.size ad m c 1 (fil (bs.take k) pt) [q.p] (.slice (some ⟨w4.heap.size, 0, none⟩) 1 1) rfl HM.out rfl (HO4.out.alloc _) rfl (src_row Try.fourP 1 1 rfl (row_one w4 46 q.p) (by simp)) (by omega) (by simp; omega) ?_; intro a6 c6 w5 ho5 hg5 ht5)
        go_roundw
        case rel => exact ⟨k + 1, m + 1, a6, c6, by omega, by go_num, rfl, by rw [HSn.out, List.length_append, ← HM.out]; rfl, by rw [HSn.out]; exact ho5, below_appR (HB4.out.alloc hW4 _) (HO4.out.alloc _) (by simp; omega) hg5⟩
        case measure => simp [intOf]; omega
    · have eT : bs.take k = bs := List.take_of_length_le (by have := HN.out; omega)
      rw [eT] at HM HO
      clear eT hown hm hbel
      have HF := hidP (And.intro HM.out (And.intro (HO.out.mono HUB.out.size) (HUB.out.trans (HBel.out.mono HUB.out.size))))
      go_wp2_with fail
      go_ret
      refine ⟨ad, c, ?_, ?_, HF.out.2.2⟩
      · rw [← HF.out.1]; rfl
      · rw [← HF.out.1]; exact HF.out.2.1

set_option maxRecDepth 10000 in
set_option maxHeartbeats 2000000 in
theorem l5Blocks_any (pt : Pf) (ap : Option Addr) (np cp : Nat) (ab : Option Addr) (nb cb : Nat) (bs : List Bk) (w : World) (hnb : nb = bs.length) (hK : RowG KBk w ab bs) (hl : nb ≤ 1048576) :
    Calls Try.prog 61 #[.agg #[.slice ap np cp, .slice ab nb cb], .agg #[.bool pt.s, .int .i64 pt.H.toInt, .int .i64 pt.L.toInt, .int .i64 pt.b]] w fun e w' => ∃ a c, e = .returned (.slice a (fil bs pt).length c) ∧ OwnR 46 w' w.heap.size (.slice a (fil bs pt).length c) (fil bs pt) ∧ Below w.heap.size w w' := by
  have HBK := hidP hK
  have HN := hidP hnb
  clear hK hnb
  go_enter Try.func61, Try.ntmps61
  go_wp2_with fail
  obtain ⟨u0, u1⟩ := box2 (u := .slice ap np cp) (v := .slice ab nb cb) w 32
  have uB := alloc_below w (.cells #[.slice ap np cp, .slice ab nb cb] 32)
  have uL := alloc_lt w (.cells #[.slice ap np cp, .slice ab nb cb] 32)
  have uS : (w.alloc (.cells #[.slice ap np cp, .slice ab nb cb] 32)).heap.size = w.heap.size + 1 := by simp
  generalize w.alloc (.cells #[.slice ap np cp, .slice ab nb cb] 32) = W1 at *
  obtain ⟨y0, y1, y2, y3⟩ := box4 (p := pt) W1 46
  have yB := alloc_below W1 (.cells #[.bool pt.s, .int .i64 pt.H.toInt, .int .i64 pt.L.toInt, .int .i64 pt.b] 46)
  have yL := alloc_lt W1 (.cells #[.bool pt.s, .int .i64 pt.H.toInt, .int .i64 pt.L.toInt, .int .i64 pt.b] 46)
  have yS : (W1.alloc (.cells #[.bool pt.s, .int .i64 pt.H.toInt, .int .i64 pt.L.toInt, .int .i64 pt.b] 46)).heap.size = W1.heap.size + 1 := by simp
  generalize W1.alloc (.cells #[.bool pt.s, .int .i64 pt.H.toInt, .int .i64 pt.L.toInt, .int .i64 pt.b] 46) = W2 at *
  rw [uS] at y0 y1 y2 y3 yL yS
  have s1 := (yB.cell uL).trans u1
  have sL : w.heap.size < W2.heap.size := by omega
  have HUB := hidP (uB.trans (yB.mono uB.size))
  have HK2 := hidP (HBK.out.later HUB.out)
  have hs2 : w.heap.size + 1 + 1 = W2.heap.size := by omega
  clear uB yB uS yS u0 u1 HBK uL
  have HZ : Hid (OwnR 46 (W2.alloc (.cells #[] 46)) W2.heap.size (.slice (some ⟨w.heap.size + 1 + 1, 0, none⟩) 0 0) []) := hidP (by rw [hs2]; exact own_zero W2 W2.heap.size 46 (Nat.le_refl _))
  have HZB := hidP (alloc_below W2 (.cells #[] 46))
  clear hs2
  go_loopw [5, 6] (fun t5 t6 wr => ∃ (k m : Nat) (ad : Option Addr) (c : Nat), k ≤ nb ∧ t6 = .int .i64 k ∧ t5 = .slice ad m c ∧ m = (fil (bs.take k) pt).length ∧ OwnR 46 wr W2.heap.size (.slice ad m c) (fil (bs.take k) pt) ∧ Below W2.heap.size W2 wr) (fun _ t6 _ => nb - (intOf t6).toNat)
  case atStart => exact ⟨0, 0, _, 0, Nat.zero_le _, rfl, rfl, rfl, HZ.out, HZB.out⟩
  case round =>
    obtain ⟨k, m, ad, c, hk, rfl, rfl, hm, hown, hbel⟩ := hrel
    have HM := hidP hm
    have HO := hidP hown
    have HBel := hidP hbel
    have hmk : m ≤ k := by rw [hm]; exact fil_len bs pt k
    have v1 := (hbel.cell sL).trans s1
    have vL : w.heap.size < wr.heap.size := Nat.lt_of_lt_of_le sL hbel.size
    by_cases hlt : k < nb
    · obtain ⟨p, o, q, rfl, hp, hq, c0, c1, c2, c3, c4⟩ := rowBk HK2.out k (by rw [← HN.out]; exact hlt)
      have d0 := (hbel.cell hp).trans c0
      have d1 := (hbel.cell hp).trans c1
      have d2 := (hbel.cell hp).trans c2
      have d3 := (hbel.cell hp).trans c3
      have dL : p < wr.heap.size := Nat.lt_of_lt_of_le hp hbel.size
      have r0 := (hbel.cell yL).trans y0
      have r1 := (hbel.cell yL).trans y1
      have r2 := (hbel.cell yL).trans y2
      have r3 := (hbel.cell yL).trans y3
      have rL : w.heap.size + 1 < wr.heap.size := Nat.lt_of_lt_of_le yL hbel.size
      have hWr : W2.heap.size ≤ wr.heap.size := hbel.size
      have HSn := hidP (fil_snoc bs pt k q hq)
      have HWi := hidP (sWithin_any q.p.s q.p.H q.p.L q.p.b pt.s pt.H pt.L pt.b)
      change Hid (∀ w, Calls Try.prog 72 _ w fun e w' => e = .returned (.bool (winP q.p pt)) ∧ Below w.heap.size w w') at HWi
      clear c0 c1 c2 c3 c4 hq hbel hown hm
      cases hw : winP q.p pt
      · rw [hw] at HWi HSn
        go_wp2_with fail
        have HSx : Hid (∀ x, Below wr.heap.size wr x → (x.cell? ⟨p, o + k * 5, none⟩ = some (.bool q.p.s) ∧ x.cell? ⟨p, o + k * 5 + 1, none⟩ = some (.int .i64 q.p.H.toInt) ∧ x.cell? ⟨p, o + k * 5 + 2, none⟩ = some (.int .i64 q.p.L.toInt) ∧ x.cell? ⟨p, o + k * 5 + 3, none⟩ = some (.int .i64 q.p.b) ∧ x.cell? ⟨w.heap.size, 1, none⟩ = some (.slice (some ⟨p, o, none⟩) nb cb) ∧ x.cell? ⟨w.heap.size + 1, 0, none⟩ = some (.bool pt.s) ∧ x.cell? ⟨w.heap.size + 1, 1, none⟩ = some (.int .i64 pt.H.toInt) ∧ x.cell? ⟨w.heap.size + 1, 2, none⟩ = some (.int .i64 pt.L.toInt) ∧ x.cell? ⟨w.heap.size + 1, 3, none⟩ = some (.int .i64 pt.b) ∧ Below wr.heap.size wr x)) := hidP fun x h =>
          ⟨(h.cell dL).trans d0, (h.cell dL).trans d1, (h.cell dL).trans d2, (h.cell dL).trans d3, (h.cell vL).trans v1, (h.cell rL).trans r0, (h.cell rL).trans r1, (h.cell rL).trans r2, (h.cell rL).trans r3, h⟩
        refine wp_region_held_drew (S := (fun x => x.cell? ⟨p, o + k * 5, none⟩ = some (.bool q.p.s) ∧ x.cell? ⟨p, o + k * 5 + 1, none⟩ = some (.int .i64 q.p.H.toInt) ∧ x.cell? ⟨p, o + k * 5 + 2, none⟩ = some (.int .i64 q.p.L.toInt) ∧ x.cell? ⟨p, o + k * 5 + 3, none⟩ = some (.int .i64 q.p.b) ∧ x.cell? ⟨w.heap.size, 1, none⟩ = some (.slice (some ⟨p, o, none⟩) nb cb) ∧ x.cell? ⟨w.heap.size + 1, 0, none⟩ = some (.bool pt.s) ∧ x.cell? ⟨w.heap.size + 1, 1, none⟩ = some (.int .i64 pt.H.toInt) ∧ x.cell? ⟨w.heap.size + 1, 2, none⟩ = some (.int .i64 pt.L.toInt) ∧ x.cell? ⟨w.heap.size + 1, 3, none⟩ = some (.int .i64 pt.b) ∧ Below wr.heap.size wr x)) (by kernel_rfl) ?_ (fun hHeld => ?_)
        · try dsimp only
          exact HSx.out _ ((Below.refl _ _).drew)
        refine wpAnyH_take (i := 0) (oi := ⟨some 15, _, _, _, _, _⟩) (v := ?_) rfl (by kernel_rfl) (by kernel_rfl) (by kernel_rfl) (fun _ _ _ h => h) (Or.inl ⟨by rfl, ?_⟩) (by assumption) ?_
        rotate_left
        · intro w hSw
          try dsimp only at hSw
          go_simp
          try with_reducible rfl
        simp only [Act.put, List.setIfInBounds_toArray, List.set_cons_zero, List.set_cons_succ]
        refine wpAnyH_take (i := 1) (oi := ⟨some 16, _, _, _, _, _⟩) (v := ?_) rfl (by kernel_rfl) (by kernel_rfl) (by kernel_rfl) (fun _ _ _ h => h) (Or.inl ⟨by rfl, ?_⟩) (by assumption) ?_
        rotate_left
        · intro w hSw
          try dsimp only at hSw
          go_simp
          try with_reducible rfl
        simp only [Act.put, List.setIfInBounds_toArray, List.set_cons_zero, List.set_cons_succ]
        refine wpAnyH_take (i := 2) (oi := ⟨some 17, _, _, _, _, _⟩) (v := ?_) rfl (by kernel_rfl) (by kernel_rfl) (by kernel_rfl) (fun _ _ _ h => h) (Or.inl ⟨by rfl, ?_⟩) (by assumption) ?_
        rotate_left
        · intro w hSw
          try dsimp only at hSw
          go_simp
          try with_reducible rfl
        simp only [Act.put, List.setIfInBounds_toArray, List.set_cons_zero, List.set_cons_succ]
        refine wpAnyH_take (i := 3) (oi := ⟨some 18, _, _, _, _, _⟩) (v := ?_) rfl (by kernel_rfl) (by kernel_rfl) (by kernel_rfl) (fun _ _ _ h => h) (Or.inl ⟨by rfl, ?_⟩) (by assumption) ?_
        rotate_left
        · intro w hSw
          try dsimp only at hSw
          go_simp
          try with_reducible rfl
        simp only [Act.put, List.setIfInBounds_toArray, List.set_cons_zero, List.set_cons_succ]
        refine wpAnyH_take (i := 4) (oi := ⟨some 19, _, _, _, _, _⟩) (v := ?_) rfl (by kernel_rfl) (by kernel_rfl) (by kernel_rfl) (fun _ _ _ h => h) (Or.inl ⟨by rfl, ?_⟩) (by assumption) ?_
        rotate_left
        · intro w hSw
          try dsimp only at hSw
          go_simp
          try with_reducible rfl
        simp only [Act.put, List.setIfInBounds_toArray, List.set_cons_zero, List.set_cons_succ]
        refine wpAnyH_take (i := 5) (oi := ⟨some 20, _, _, _, _, _⟩) (v := ?_) rfl (by kernel_rfl) (by kernel_rfl) (by kernel_rfl) (fun _ _ _ h => h) (Or.inl ⟨by rfl, ?_⟩) (by assumption) ?_
        rotate_left
        · intro w hSw
          try dsimp only at hSw
          go_simp
          try with_reducible rfl
        simp only [Act.put, List.setIfInBounds_toArray, List.set_cons_zero, List.set_cons_succ]
        refine wpAnyH_take (i := 6) (oi := ⟨some 21, _, _, _, _, _⟩) (v := ?_) rfl (by kernel_rfl) (by kernel_rfl) (by kernel_rfl) (fun _ _ _ h => h) (Or.inl ⟨by rfl, ?_⟩) (by assumption) ?_
        rotate_left
        · intro w hSw
          try dsimp only at hSw
          go_simp
          try with_reducible rfl
        simp only [Act.put, List.setIfInBounds_toArray, List.set_cons_zero, List.set_cons_succ]
        refine wpAnyH_ready (rs := [7]) (by kernel_rfl) (by simp) ?_
        refine AllReadyH.cons rfl (fun K hK => ?_) AllReadyH.nil
        go_simp
        go_wp2_with (first | (go_at_call 72; refine (HWi.out _).mono ?_; rintro e w4 ⟨rfl, hb4⟩; have b4 := (hHeld.2.2.2.2.2.2.2.2.2).trans (hb4.mono (hHeld.2.2.2.2.2.2.2.2.2).size)))
        refine hK.out _ _ ?_ (fun hHeld => ?_)
        · try dsimp only
          exact HSx.out _ b4
        clear hK K
        have HE := hidP (hHeld.2.2.2.2.2.2.2.2.2)
        refine wpAnyH_done (by kernel_rfl) ?_ _
        clear hHeld
        have HB4 := hidP (HBel.out.trans (HE.out.mono HBel.out.size))
        have HO4 := hidP (HO.out.later HE.out)
        have hW4 : W2.heap.size ≤ w4.heap.size := Nat.le_trans hWr HE.out.size
        go_wp2_with fail
        go_roundw
        case rel => exact ⟨k + 1, m, ad, c, by omega, by go_num, rfl, by rw [HSn.out]; simpa using HM.out, by rw [HSn.out]; simpa using HO4.out, HB4.out⟩
        case measure => simp [intOf]; omega
      · rw [hw] at HWi HSn
        rw [if_pos rfl] at HSn
        go_wp2_with fail
        have HSx : Hid (∀ x, Below wr.heap.size wr x → (x.cell? ⟨p, o + k * 5, none⟩ = some (.bool q.p.s) ∧ x.cell? ⟨p, o + k * 5 + 1, none⟩ = some (.int .i64 q.p.H.toInt) ∧ x.cell? ⟨p, o + k * 5 + 2, none⟩ = some (.int .i64 q.p.L.toInt) ∧ x.cell? ⟨p, o + k * 5 + 3, none⟩ = some (.int .i64 q.p.b) ∧ x.cell? ⟨w.heap.size, 1, none⟩ = some (.slice (some ⟨p, o, none⟩) nb cb) ∧ x.cell? ⟨w.heap.size + 1, 0, none⟩ = some (.bool pt.s) ∧ x.cell? ⟨w.heap.size + 1, 1, none⟩ = some (.int .i64 pt.H.toInt) ∧ x.cell? ⟨w.heap.size + 1, 2, none⟩ = some (.int .i64 pt.L.toInt) ∧ x.cell? ⟨w.heap.size + 1, 3, none⟩ = some (.int .i64 pt.b) ∧ Below wr.heap.size wr x)) := hidP fun x h =>
          ⟨(h.cell dL).trans d0, (h.cell dL).trans d1, (h.cell dL).trans d2, (h.cell dL).trans d3, (h.cell vL).trans v1, (h.cell rL).trans r0, (h.cell rL).trans r1, (h.cell rL).trans r2, (h.cell rL).trans r3, h⟩
        refine wp_region_held_drew (S := (fun x => x.cell? ⟨p, o + k * 5, none⟩ = some (.bool q.p.s) ∧ x.cell? ⟨p, o + k * 5 + 1, none⟩ = some (.int .i64 q.p.H.toInt) ∧ x.cell? ⟨p, o + k * 5 + 2, none⟩ = some (.int .i64 q.p.L.toInt) ∧ x.cell? ⟨p, o + k * 5 + 3, none⟩ = some (.int .i64 q.p.b) ∧ x.cell? ⟨w.heap.size, 1, none⟩ = some (.slice (some ⟨p, o, none⟩) nb cb) ∧ x.cell? ⟨w.heap.size + 1, 0, none⟩ = some (.bool pt.s) ∧ x.cell? ⟨w.heap.size + 1, 1, none⟩ = some (.int .i64 pt.H.toInt) ∧ x.cell? ⟨w.heap.size + 1, 2, none⟩ = some (.int .i64 pt.L.toInt) ∧ x.cell? ⟨w.heap.size + 1, 3, none⟩ = some (.int .i64 pt.b) ∧ Below wr.heap.size wr x)) (by kernel_rfl) ?_ (fun hHeld => ?_)
        · try dsimp only
          exact HSx.out _ ((Below.refl _ _).drew)
        refine wpAnyH_take (i := 0) (oi := ⟨some 15, _, _, _, _, _⟩) (v := ?_) rfl (by kernel_rfl) (by kernel_rfl) (by kernel_rfl) (fun _ _ _ h => h) (Or.inl ⟨by rfl, ?_⟩) (by assumption) ?_
        rotate_left
        · intro w hSw
          try dsimp only at hSw
          go_simp
          try with_reducible rfl
        simp only [Act.put, List.setIfInBounds_toArray, List.set_cons_zero, List.set_cons_succ]
        refine wpAnyH_take (i := 1) (oi := ⟨some 16, _, _, _, _, _⟩) (v := ?_) rfl (by kernel_rfl) (by kernel_rfl) (by kernel_rfl) (fun _ _ _ h => h) (Or.inl ⟨by rfl, ?_⟩) (by assumption) ?_
        rotate_left
        · intro w hSw
          try dsimp only at hSw
          go_simp
          try with_reducible rfl
        simp only [Act.put, List.setIfInBounds_toArray, List.set_cons_zero, List.set_cons_succ]
        refine wpAnyH_take (i := 2) (oi := ⟨some 17, _, _, _, _, _⟩) (v := ?_) rfl (by kernel_rfl) (by kernel_rfl) (by kernel_rfl) (fun _ _ _ h => h) (Or.inl ⟨by rfl, ?_⟩) (by assumption) ?_
        rotate_left
        · intro w hSw
          try dsimp only at hSw
          go_simp
          try with_reducible rfl
        simp only [Act.put, List.setIfInBounds_toArray, List.set_cons_zero, List.set_cons_succ]
        refine wpAnyH_take (i := 3) (oi := ⟨some 18, _, _, _, _, _⟩) (v := ?_) rfl (by kernel_rfl) (by kernel_rfl) (by kernel_rfl) (fun _ _ _ h => h) (Or.inl ⟨by rfl, ?_⟩) (by assumption) ?_
        rotate_left
        · intro w hSw
          try dsimp only at hSw
          go_simp
          try with_reducible rfl
        simp only [Act.put, List.setIfInBounds_toArray, List.set_cons_zero, List.set_cons_succ]
        refine wpAnyH_take (i := 4) (oi := ⟨some 19, _, _, _, _, _⟩) (v := ?_) rfl (by kernel_rfl) (by kernel_rfl) (by kernel_rfl) (fun _ _ _ h => h) (Or.inl ⟨by rfl, ?_⟩) (by assumption) ?_
        rotate_left
        · intro w hSw
          try dsimp only at hSw
          go_simp
          try with_reducible rfl
        simp only [Act.put, List.setIfInBounds_toArray, List.set_cons_zero, List.set_cons_succ]
        refine wpAnyH_take (i := 5) (oi := ⟨some 20, _, _, _, _, _⟩) (v := ?_) rfl (by kernel_rfl) (by kernel_rfl) (by kernel_rfl) (fun _ _ _ h => h) (Or.inl ⟨by rfl, ?_⟩) (by assumption) ?_
        rotate_left
        · intro w hSw
          try dsimp only at hSw
          go_simp
          try with_reducible rfl
        simp only [Act.put, List.setIfInBounds_toArray, List.set_cons_zero, List.set_cons_succ]
        refine wpAnyH_take (i := 6) (oi := ⟨some 21, _, _, _, _, _⟩) (v := ?_) rfl (by kernel_rfl) (by kernel_rfl) (by kernel_rfl) (fun _ _ _ h => h) (Or.inl ⟨by rfl, ?_⟩) (by assumption) ?_
        rotate_left
        · intro w hSw
          try dsimp only at hSw
          go_simp
          try with_reducible rfl
        simp only [Act.put, List.setIfInBounds_toArray, List.set_cons_zero, List.set_cons_succ]
        refine wpAnyH_ready (rs := [7]) (by kernel_rfl) (by simp) ?_
        refine AllReadyH.cons rfl (fun K hK => ?_) AllReadyH.nil
        go_simp
        go_wp2_with (first | (go_at_call 72; refine (HWi.out _).mono ?_; rintro e w4 ⟨rfl, hb4⟩; have b4 := (hHeld.2.2.2.2.2.2.2.2.2).trans (hb4.mono (hHeld.2.2.2.2.2.2.2.2.2).size)))
        refine hK.out _ _ ?_ (fun hHeld => ?_)
        · try dsimp only
          exact HSx.out _ b4
        clear hK K
        have HE := hidP (hHeld.2.2.2.2.2.2.2.2.2)
        refine wpAnyH_done (by kernel_rfl) ?_ _
        clear hHeld
        have HB4 := hidP (HBel.out.trans (HE.out.mono HBel.out.size))
        have HO4 := hidP (HO.out.later HE.out)
        have hW4 : W2.heap.size ≤ w4.heap.size := Nat.le_trans hWr HE.out.size
        have e0 := (HE.out.cell dL).trans d0
        have e1 := (HE.out.cell dL).trans d1
        have e2 := (HE.out.cell dL).trans d2
        have e3 := (HE.out.cell dL).trans d3
        have n1 := (HE.out.cell vL).trans v1
        clear d0 d1 d2 d3 v1
        go_wp2_with (at_builtin; refine wpList_appR Try.fourP _ rfl (.tmp 23) (.tmp 30) 86 rfl W2.heap.size ad m c 1 (fil (bs.take k) pt) [q.p] (.slice (some ⟨w4.heap.size, 0, none⟩) 1 1) rfl HM.out rfl (HO4.out.alloc _) rfl (src_row Try.fourP 1 1 rfl (row_one w4 46 q.p) (by simp)) (by omega) (by simp; omega) ?_; intro a6 c6 w5 ho5 hg5 ht5)
        go_roundw
        case rel => exact ⟨k + 1, m + 1, a6, c6, by omega, by go_num, rfl, by rw [HSn.out, List.length_append, ← HM.out]; rfl, by rw [HSn.out]; exact ho5, below_appR (HB4.out.alloc hW4 _) (HO4.out.alloc _) (by simp; omega) hg5⟩
        case measure => simp [intOf]; omega
    · have eT : bs.take k = bs := List.take_of_length_le (by have := HN.out; omega)
      rw [eT] at HM HO
      clear eT hown hm hbel
      have HF := hidP (And.intro HM.out (And.intro (HO.out.mono HUB.out.size) (HUB.out.trans (HBel.out.mono HUB.out.size))))
      go_wp2_with fail
      go_ret
      refine ⟨ad, c, ?_, ?_, HF.out.2.2⟩
      · rw [← HF.out.1]; rfl
      · rw [← HF.out.1]; exact HF.out.2.1

end Go.Proofs.Ythbpehpnikknlaa

namespace Go.Proofs.Ythbpehpnikknlaa
open Go.RowKit

theorem OwnG.drewG {α : Type} {K : Kd α} {t : TypeId} {w : World} {B : Nat} {v : Value} {ps : List α} (h : OwnG K t w B v ps) : OwnG K t w.drew B v ps := OwnG.later h (Below.refl _ _).drew
theorem ob_some (p n c : Nat) : (Value.slice (some ⟨p, 0, none⟩) n c).ownBlock = some p := rfl

set_option maxRecDepth 10000 in
set_option maxHeartbeats 4000000 in
theorem l5Copy_any (ap : Option Addr) (np cp : Nat) (ab : Option Addr) (nb cb : Nat) (ps : List Pl) (bs : List Bk) (w : World) (hnp : np = ps.length) (hnb : nb = bs.length) (hP : RowG KPl w ap ps) (hK : RowG KBk w ab bs) (hcp : ap = none → cp = 0) (hcb : ab = none → cb = 0) (hl : np ≤ 1048576) (hl' : nb ≤ 1048576) :
    Calls Try.prog 48 #[.agg #[.slice ap np cp, .slice ab nb cb]] w fun e w' => ∃ a c b d, e = .returned (.agg #[.slice a np c, .slice b nb d]) ∧ OwnG KPl 48 w' w.heap.size (.slice a np c) ps ∧ OwnG KBk 56 w' w.heap.size (.slice b nb d) bs ∧ (∀ k, (Value.slice a np c).ownBlock = some k → (Value.slice b nb d).ownBlock ≠ some k) ∧ Below w.heap.size w w' := by
  have HR := hidP (And.intro hP hK)
  have HN := hidP (And.intro hnp hnb)
  have HC := hidP (And.intro hcp hcb)
  clear hP hK hnp hnb hcp hcb
  go_enter Try.func48, Try.ntmps48
  go_wp2_with fail
  obtain ⟨u0, u1⟩ := box2 (u := .slice ap np cp) (v := .slice ab nb cb) w 32
  have uB := alloc_below w (.cells #[.slice ap np cp, .slice ab nb cb] 32)
  have uL := alloc_lt w (.cells #[.slice ap np cp, .slice ab nb cb] 32)
  have uS : (w.alloc (.cells #[.slice ap np cp, .slice ab nb cb] 32)).heap.size = w.heap.size + 1 := by simp
  generalize w.alloc (.cells #[.slice ap np cp, .slice ab nb cb] 32) = W1 at *
  have yF := frz2 W1 32 (.slice none 0 0) (.slice none 0 0)
  obtain ⟨y0, y1⟩ := box2 (u := .slice none 0 0) (v := .slice none 0 0) W1 32
  have yB := alloc_below W1 (.cells #[.slice none 0 0, .slice none 0 0] 32)
  have yL := alloc_lt W1 (.cells #[.slice none 0 0, .slice none 0 0] 32)
  have yS : (W1.alloc (.cells #[.slice none 0 0, .slice none 0 0] 32)).heap.size = W1.heap.size + 1 := by simp
  generalize W1.alloc (.cells #[.slice none 0 0, .slice none 0 0] 32) = W2 at *
  rw [uS] at y0 y1 yL yS
  rw [uS] at yF
  have HU := hidP uB
  have HY := hidP yB
  have hs1 : W1.heap.size = w.heap.size + 1 := uS
  have hs2 : W2.heap.size = w.heap.size + 1 + 1 := yS
  have HS12 := hidP (And.intro hs1 hs2)
  clear uB yB uS yS hs1 hs2
  have HSx : Hid (∀ x, Below W1.heap.size W1 x → (x.cell? ⟨w.heap.size, 0, none⟩ = some (.slice ap np cp) ∧ x.cell? ⟨w.heap.size, 1, none⟩ = some (.slice ab nb cb) ∧ Below W1.heap.size W1 x)) := hidP fun x h =>
    ⟨(h.cell uL).trans u0, (h.cell uL).trans u1, h⟩
  refine wp_region_held_drew (S := (fun x => x.cell? ⟨w.heap.size, 0, none⟩ = some (.slice ap np cp) ∧ x.cell? ⟨w.heap.size, 1, none⟩ = some (.slice ab nb cb) ∧ Below W1.heap.size W1 x)) (by kernel_rfl) ?_ (fun hHeld => ?_)
  · try dsimp only
    exact HSx.out _ HY.out.drew
  refine wpAnyH_take (i := 1) (oi := ⟨some 4, _, _, _, _, _⟩) (v := ?_) rfl (by kernel_rfl) (by kernel_rfl) (by kernel_rfl) (fun _ _ _ h => h) (Or.inl ⟨by rfl, ?_⟩) (by assumption) ?_
  rotate_left
  · intro w hSw
    try dsimp only at hSw
    go_simp
    try with_reducible rfl
  simp only [Act.put, List.setIfInBounds_toArray, List.set_cons_zero, List.set_cons_succ]
  refine wpAnyH_take (i := 2) (oi := ⟨some 5, _, _, _, _, _⟩) (v := ?_) rfl (by kernel_rfl) (by kernel_rfl) (by kernel_rfl) (fun _ _ _ h => h) (Or.inl ⟨by rfl, ?_⟩) (by assumption) ?_
  rotate_left
  · intro w hSw
    try dsimp only at hSw
    go_simp
    try with_reducible rfl
  simp only [Act.put, List.setIfInBounds_toArray, List.set_cons_zero, List.set_cons_succ]
  refine wpAnyH_take (i := 5) (oi := ⟨some 8, _, _, _, _, _⟩) (v := ?_) rfl (by kernel_rfl) (by kernel_rfl) (by kernel_rfl) (fun _ _ _ h => h) (Or.inl ⟨by rfl, ?_⟩) (by assumption) ?_
  rotate_left
  · intro w hSw
    try dsimp only at hSw
    go_simp
    try with_reducible rfl
  simp only [Act.put, List.setIfInBounds_toArray, List.set_cons_zero, List.set_cons_succ]
  refine wpAnyH_take (i := 6) (oi := ⟨some 9, _, _, _, _, _⟩) (v := ?_) rfl (by kernel_rfl) (by kernel_rfl) (by kernel_rfl) (fun _ _ _ h => h) (Or.inl ⟨by rfl, ?_⟩) (by assumption) ?_
  rotate_left
  · intro w hSw
    try dsimp only at hSw
    go_simp
    try with_reducible rfl
  simp only [Act.put, List.setIfInBounds_toArray, List.set_cons_zero, List.set_cons_succ]
  refine wpAnyH_ready (rs := [0, 4]) (by kernel_rfl) (by simp) ?_
  refine AllReadyH.cons rfl (fun K hK => ?_) (AllReadyH.cons rfl (fun K hK => ?_) AllReadyH.nil)
  · go_simp
    have z3 := own_zeroG KPl W2 W2.heap.size 48 (Nat.le_refl _)
    have zb3 := alloc_below W2 (.cells #[] 48)
    have zs3 : W2.heap.size + 1 ≤ (W2.alloc (.cells #[] 48)).heap.size := by simp
    have z3 := OwnG.drewG z3
    have zb3 := zb3.drew
    have zs3 : W2.heap.size + 1 ≤ (W2.alloc (.cells #[] 48)).drew.heap.size := zs3
    have bel3 := HY.out.trans (zb3.mono HY.out.size)
    generalize (W2.alloc (.cells #[] 48)).drew = w3 at *
    have wb3 := zb3
    refine hK.out _ _ ?_ (fun hHeld => ?_)
    · try dsimp only
      exact HSx.out _ bel3
    clear hK K
    refine wpAnyH_ready (rs := [3, 4]) (by kernel_rfl) (by simp) ?_
    refine AllReadyH.cons rfl (fun K hK => ?_) (AllReadyH.cons rfl (fun K hK => ?_) AllReadyH.nil)
    · have hbs4 : W2.heap.size ≤ w3.heap.size := by omega
      refine step_appG Try.tyPl _ rfl (.tmp 3) (.tmp 5) 29 rfl (W2.heap.size) (some ⟨W2.heap.size, 0, none⟩) 0 0 np [] ps (.slice ap np cp) rfl rfl HN.out.1 z3 rfl (src_rowG Try.tyPl.1 np cp (by show 0 < 5; omega) HN.out.1 (HR.out.1.later (HU.out.trans (bel3.mono HU.out.size))) HC.out.1) (by omega) hbs4 ?_
      intro a4 c4 w4 ho4 hg4 ht4
      have zs4 := hg4.size
      have bel4 := Below.grown bel3 hg4 bel3.size (fun j hj => by rw [ob_some, Option.some.injEq] at hj; have := HS12.out; omega)
      rw [Nat.zero_add, List.nil_append] at ho4
      have lt4 := fun j hj => (OwnG.lt ho4 j hj).2
      have wb4 := Below.grown wb3 hg4 wb3.size (fun j hj => by rw [ob_some, Option.some.injEq] at hj; omega)
      refine hK.out _ _ ?_ (fun hHeld => ?_)
      · try dsimp only
        exact HSx.out _ bel4
      clear hK K
      refine wpAnyH_ready (rs := [4]) (by kernel_rfl) (by simp) ?_
      refine AllReadyH.cons rfl (fun K hK => ?_) AllReadyH.nil
      go_simp
      have z5 := own_zeroG KBk w4 w4.heap.size 56 (Nat.le_refl _)
      have zb5 := alloc_below w4 (.cells #[] 56)
      have zs5 : w4.heap.size + 1 ≤ (w4.alloc (.cells #[] 56)).heap.size := by simp
      have bel5 := bel4.trans (zb5.mono bel4.size)
      generalize w4.alloc (.cells #[] 56) = w5 at *
      have oP5 := OwnG.later ho4 zb5
      have wb5 := wb4.trans (zb5.mono wb4.size)
      refine hK.out _ _ ?_ (fun hHeld => ?_)
      · try dsimp only
        exact HSx.out _ bel5
      clear hK K
      refine wpAnyH_ready (rs := [7]) (by kernel_rfl) (by simp) ?_
      refine AllReadyH.cons rfl (fun K hK => ?_) AllReadyH.nil
      have hbs6 : w4.heap.size ≤ w5.heap.size := by omega
      refine step_appG Try.tyBk _ rfl (.tmp 7) (.tmp 9) 30 rfl (w4.heap.size) (some ⟨w4.heap.size, 0, none⟩) 0 0 nb [] bs (.slice ab nb cb) rfl rfl HN.out.2 z5 rfl (src_rowG Try.tyBk.1 nb cb (by show 0 < 5; omega) HN.out.2 (HR.out.2.later (HU.out.trans (bel5.mono HU.out.size))) HC.out.2) (by omega) hbs6 ?_
      intro a6 c6 w6 ho6 hg6 ht6
      have zs6 := hg6.size
      have bel6 := Below.grown bel5 hg6 bel5.size (fun j hj => by rw [ob_some, Option.some.injEq] at hj; have := HS12.out; omega)
      have oP6 := OwnG.grown oP5 hg6 (fun j hj he => by have h7 := lt4 j hj; rw [ob_some, Option.some.injEq] at he; rcases ht4 with rfl | rfl <;> rw [ob_some, Option.some.injEq] at hj <;> omega)
      rw [Nat.zero_add, List.nil_append] at ho6
      have lt6 := fun j hj => (OwnG.lt ho6 j hj).2
      have wb6 := Below.grown wb5 hg6 wb5.size (fun j hj => by rw [ob_some, Option.some.injEq] at hj; omega)
      refine hK.out _ _ ?_ (fun hHeld => ?_)
      · try dsimp only
        exact HSx.out _ bel6
      clear hK K
      refine wpAnyH_take (i := 8) (oi := ⟨some 11, _, _, _, _, _⟩) (v := ?_) rfl (by kernel_rfl) (by kernel_rfl) (by kernel_rfl) (fun _ _ _ h => h) (Or.inl ⟨by rfl, ?_⟩) (by assumption) ?_
      rotate_left
      · intro w hSw
        try dsimp only at hSw
        go_simp
        try with_reducible rfl
      simp only [Act.put, List.setIfInBounds_toArray]
      refine wpAnyH_ready (rs := [9]) (by kernel_rfl) (by simp) ?_
      refine AllReadyH.cons rfl (fun K hK => ?_) AllReadyH.nil
      have zz : w.heap.size + 1 < w6.heap.size := by have := HS12.out; omega
      have r0 := (wb6.cell yL).trans y0
      have r1 := (wb6.cell yL).trans y1
      have rF : ∀ o, w6.frozen? ⟨w.heap.size + 1, o, none⟩ = false := fun o => (wb6.frozen yL).trans (yF o)
      go_simp
      refine hK.out _ _ ?_ (fun hHeld => ?_)
      · try dsimp only
        refine HSx.out _ ?_
        repeat (with_reducible refine Below.setCell ?_ ?_ _; rotate_left; (focus (have := HS12.out; simp; omega)))
        exact bel6
      clear hK K
      refine wpAnyH_done (by kernel_rfl) ?_ _
      clear hHeld
      go_wp2_with fail
      refine bodyPost_ret (v := .agg #[.slice a4 np c4, .slice a6 nb c6]) (by simp [results, Try.results48, go_sem, r0, r1]) rfl ⟨a4, c4, a6, c6, rfl, ?_, ?_, ?_, ?_⟩
      · have o1 := OwnG.grown oP6 (grown_cellG w6 (w.heap.size + 1) 0 (.slice a4 np c4)) (fun k hk e => by have h5 := (OwnG.lt oP6 k hk).1; have h6 := HS12.out; simp at e; omega)
        have o2 := OwnG.grown o1 (grown_cellG _ (w.heap.size + 1) 1 (.slice a6 nb c6)) (fun k hk e => by have h5 := (OwnG.lt oP6 k hk).1; have h6 := HS12.out; simp at e; omega)
        exact o2.mono (by have := HS12.out; omega)
      · have o1 := OwnG.grown ho6 (grown_cellG w6 (w.heap.size + 1) 0 (.slice a4 np c4)) (fun k hk e => by have h5 := (OwnG.lt ho6 k hk).1; have h6 := HS12.out; simp at e; omega)
        have o2 := OwnG.grown o1 (grown_cellG _ (w.heap.size + 1) 1 (.slice a6 nb c6)) (fun k hk e => by have h5 := (OwnG.lt ho6 k hk).1; have h6 := HS12.out; simp at e; omega)
        exact o2.mono (by have := HS12.out; omega)
      · intro k h1 h2
        have h7 := lt4 k h1
        have h8 := lt6 k h2
        rcases ht4 with rfl | rfl <;> rcases ht6 with rfl | rfl <;> rw [ob_some, Option.some.injEq] at h1 h2 <;> omega
      · refine HU.out.trans (Below.mono ?_ HU.out.size)
        repeat (with_reducible refine Below.setCell ?_ ?_ _; rotate_left; (focus (have := HS12.out; simp; omega)))
        exact bel6
    · go_simp
      have z4 := own_zeroG KBk w3 w3.heap.size 56 (Nat.le_refl _)
      have zb4 := alloc_below w3 (.cells #[] 56)
      have zs4 : w3.heap.size + 1 ≤ (w3.alloc (.cells #[] 56)).heap.size := by simp
      have bel4 := bel3.trans (zb4.mono bel3.size)
      generalize w3.alloc (.cells #[] 56) = w4 at *
      have oP4 := OwnG.later z3 zb4
      have wb4 := wb3.trans (zb4.mono wb3.size)
      refine hK.out _ _ ?_ (fun hHeld => ?_)
      · try dsimp only
        exact HSx.out _ bel4
      clear hK K
      refine wpAnyH_ready (rs := [3]) (by kernel_rfl) (by simp) ?_
      refine AllReadyH.cons rfl (fun K hK => ?_) AllReadyH.nil
      have hbs5 : W2.heap.size ≤ w4.heap.size := by omega
      refine step_appG Try.tyPl _ rfl (.tmp 3) (.tmp 5) 29 rfl (W2.heap.size) (some ⟨W2.heap.size, 0, none⟩) 0 0 np [] ps (.slice ap np cp) rfl rfl HN.out.1 oP4 rfl (src_rowG Try.tyPl.1 np cp (by show 0 < 5; omega) HN.out.1 (HR.out.1.later (HU.out.trans (bel4.mono HU.out.size))) HC.out.1) (by omega) hbs5 ?_
      intro a5 c5 w5 ho5 hg5 ht5
      have zs5 := hg5.size
      have bel5 := Below.grown bel4 hg5 bel4.size (fun j hj => by rw [ob_some, Option.some.injEq] at hj; have := HS12.out; omega)
      have oB5 := OwnG.grown z4 hg5 (fun j hj he => by rw [ob_some, Option.some.injEq] at hj he; omega)
      rw [Nat.zero_add, List.nil_append] at ho5
      have lt5 := fun j hj => (OwnG.lt ho5 j hj).2
      have wb5 := Below.grown wb4 hg5 wb4.size (fun j hj => by rw [ob_some, Option.some.injEq] at hj; omega)
      refine hK.out _ _ ?_ (fun hHeld => ?_)
      · try dsimp only
        exact HSx.out _ bel5
      clear hK K
      refine wpAnyH_ready (rs := [7]) (by kernel_rfl) (by simp) ?_
      refine AllReadyH.cons rfl (fun K hK => ?_) AllReadyH.nil
      have hbs6 : w3.heap.size ≤ w5.heap.size := by omega
      refine step_appG Try.tyBk _ rfl (.tmp 7) (.tmp 9) 30 rfl (w3.heap.size) (some ⟨w3.heap.size, 0, none⟩) 0 0 nb [] bs (.slice ab nb cb) rfl rfl HN.out.2 oB5 rfl (src_rowG Try.tyBk.1 nb cb (by show 0 < 5; omega) HN.out.2 (HR.out.2.later (HU.out.trans (bel5.mono HU.out.size))) HC.out.2) (by omega) hbs6 ?_
      intro a6 c6 w6 ho6 hg6 ht6
      have zs6 := hg6.size
      have bel6 := Below.grown bel5 hg6 bel5.size (fun j hj => by rw [ob_some, Option.some.injEq] at hj; have := HS12.out; omega)
      have oP6 := OwnG.grown ho5 hg6 (fun j hj he => by have h7 := lt5 j hj; rw [ob_some, Option.some.injEq] at he; rcases ht5 with rfl | rfl <;> rw [ob_some, Option.some.injEq] at hj <;> omega)
      rw [Nat.zero_add, List.nil_append] at ho6
      have lt6 := fun j hj => (OwnG.lt ho6 j hj).2
      have wb6 := Below.grown wb5 hg6 wb5.size (fun j hj => by rw [ob_some, Option.some.injEq] at hj; omega)
      refine hK.out _ _ ?_ (fun hHeld => ?_)
      · try dsimp only
        exact HSx.out _ bel6
      clear hK K
      refine wpAnyH_take (i := 8) (oi := ⟨some 11, _, _, _, _, _⟩) (v := ?_) rfl (by kernel_rfl) (by kernel_rfl) (by kernel_rfl) (fun _ _ _ h => h) (Or.inl ⟨by rfl, ?_⟩) (by assumption) ?_
      rotate_left
      · intro w hSw
        try dsimp only at hSw
        go_simp
        try with_reducible rfl
      simp only [Act.put, List.setIfInBounds_toArray]
      refine wpAnyH_ready (rs := [9]) (by kernel_rfl) (by simp) ?_
      refine AllReadyH.cons rfl (fun K hK => ?_) AllReadyH.nil
      have zz : w.heap.size + 1 < w6.heap.size := by have := HS12.out; omega
      have r0 := (wb6.cell yL).trans y0
      have r1 := (wb6.cell yL).trans y1
      have rF : ∀ o, w6.frozen? ⟨w.heap.size + 1, o, none⟩ = false := fun o => (wb6.frozen yL).trans (yF o)
      go_simp
      refine hK.out _ _ ?_ (fun hHeld => ?_)
      · try dsimp only
        refine HSx.out _ ?_
        repeat (with_reducible refine Below.setCell ?_ ?_ _; rotate_left; (focus (have := HS12.out; simp; omega)))
        exact bel6
      clear hK K
      refine wpAnyH_done (by kernel_rfl) ?_ _
      clear hHeld
      go_wp2_with fail
      refine bodyPost_ret (v := .agg #[.slice a5 np c5, .slice a6 nb c6]) (by simp [results, Try.results48, go_sem, r0, r1]) rfl ⟨a5, c5, a6, c6, rfl, ?_, ?_, ?_, ?_⟩
      · have o1 := OwnG.grown oP6 (grown_cellG w6 (w.heap.size + 1) 0 (.slice a5 np c5)) (fun k hk e => by have h5 := (OwnG.lt oP6 k hk).1; have h6 := HS12.out; simp at e; omega)
        have o2 := OwnG.grown o1 (grown_cellG _ (w.heap.size + 1) 1 (.slice a6 nb c6)) (fun k hk e => by have h5 := (OwnG.lt oP6 k hk).1; have h6 := HS12.out; simp at e; omega)
        exact o2.mono (by have := HS12.out; omega)
      · have o1 := OwnG.grown ho6 (grown_cellG w6 (w.heap.size + 1) 0 (.slice a5 np c5)) (fun k hk e => by have h5 := (OwnG.lt ho6 k hk).1; have h6 := HS12.out; simp at e; omega)
        have o2 := OwnG.grown o1 (grown_cellG _ (w.heap.size + 1) 1 (.slice a6 nb c6)) (fun k hk e => by have h5 := (OwnG.lt ho6 k hk).1; have h6 := HS12.out; simp at e; omega)
        exact o2.mono (by have := HS12.out; omega)
      · intro k h1 h2
        have h7 := lt5 k h1
        have h8 := lt6 k h2
        rcases ht5 with rfl | rfl <;> rcases ht6 with rfl | rfl <;> rw [ob_some, Option.some.injEq] at h1 h2 <;> omega
      · refine HU.out.trans (Below.mono ?_ HU.out.size)
        repeat (with_reducible refine Below.setCell ?_ ?_ _; rotate_left; (focus (have := HS12.out; simp; omega)))
        exact bel6
  · go_simp
    have z3 := own_zeroG KBk W2 W2.heap.size 56 (Nat.le_refl _)
    have zb3 := alloc_below W2 (.cells #[] 56)
    have zs3 : W2.heap.size + 1 ≤ (W2.alloc (.cells #[] 56)).heap.size := by simp
    have z3 := OwnG.drewG z3
    have zb3 := zb3.drew
    have zs3 : W2.heap.size + 1 ≤ (W2.alloc (.cells #[] 56)).drew.heap.size := zs3
    have bel3 := HY.out.trans (zb3.mono HY.out.size)
    generalize (W2.alloc (.cells #[] 56)).drew = w3 at *
    have wb3 := zb3
    refine hK.out _ _ ?_ (fun hHeld => ?_)
    · try dsimp only
      exact HSx.out _ bel3
    clear hK K
    refine wpAnyH_ready (rs := [0]) (by kernel_rfl) (by simp) ?_
    refine AllReadyH.cons rfl (fun K hK => ?_) AllReadyH.nil
    go_simp
    have z4 := own_zeroG KPl w3 w3.heap.size 48 (Nat.le_refl _)
    have zb4 := alloc_below w3 (.cells #[] 48)
    have zs4 : w3.heap.size + 1 ≤ (w3.alloc (.cells #[] 48)).heap.size := by simp
    have bel4 := bel3.trans (zb4.mono bel3.size)
    generalize w3.alloc (.cells #[] 48) = w4 at *
    have oB4 := OwnG.later z3 zb4
    have wb4 := wb3.trans (zb4.mono wb3.size)
    refine hK.out _ _ ?_ (fun hHeld => ?_)
    · try dsimp only
      exact HSx.out _ bel4
    clear hK K
    refine wpAnyH_ready (rs := [3]) (by kernel_rfl) (by simp) ?_
    refine AllReadyH.cons rfl (fun K hK => ?_) AllReadyH.nil
    have hbs5 : w3.heap.size ≤ w4.heap.size := by omega
    refine step_appG Try.tyPl _ rfl (.tmp 3) (.tmp 5) 29 rfl (w3.heap.size) (some ⟨w3.heap.size, 0, none⟩) 0 0 np [] ps (.slice ap np cp) rfl rfl HN.out.1 z4 rfl (src_rowG Try.tyPl.1 np cp (by show 0 < 5; omega) HN.out.1 (HR.out.1.later (HU.out.trans (bel4.mono HU.out.size))) HC.out.1) (by omega) hbs5 ?_
    intro a5 c5 w5 ho5 hg5 ht5
    have zs5 := hg5.size
    have bel5 := Below.grown bel4 hg5 bel4.size (fun j hj => by rw [ob_some, Option.some.injEq] at hj; have := HS12.out; omega)
    have oB5 := OwnG.grown oB4 hg5 (fun j hj he => by rw [ob_some, Option.some.injEq] at hj he; omega)
    rw [Nat.zero_add, List.nil_append] at ho5
    have lt5 := fun j hj => (OwnG.lt ho5 j hj).2
    have wb5 := Below.grown wb4 hg5 wb4.size (fun j hj => by rw [ob_some, Option.some.injEq] at hj; omega)
    refine hK.out _ _ ?_ (fun hHeld => ?_)
    · try dsimp only
      exact HSx.out _ bel5
    clear hK K
    refine wpAnyH_ready (rs := [7]) (by kernel_rfl) (by simp) ?_
    refine AllReadyH.cons rfl (fun K hK => ?_) AllReadyH.nil
    have hbs6 : W2.heap.size ≤ w5.heap.size := by omega
    refine step_appG Try.tyBk _ rfl (.tmp 7) (.tmp 9) 30 rfl (W2.heap.size) (some ⟨W2.heap.size, 0, none⟩) 0 0 nb [] bs (.slice ab nb cb) rfl rfl HN.out.2 oB5 rfl (src_rowG Try.tyBk.1 nb cb (by show 0 < 5; omega) HN.out.2 (HR.out.2.later (HU.out.trans (bel5.mono HU.out.size))) HC.out.2) (by omega) hbs6 ?_
    intro a6 c6 w6 ho6 hg6 ht6
    have zs6 := hg6.size
    have bel6 := Below.grown bel5 hg6 bel5.size (fun j hj => by rw [ob_some, Option.some.injEq] at hj; have := HS12.out; omega)
    have oP6 := OwnG.grown ho5 hg6 (fun j hj he => by have h7 := lt5 j hj; rw [ob_some, Option.some.injEq] at he; rcases ht5 with rfl | rfl <;> rw [ob_some, Option.some.injEq] at hj <;> omega)
    rw [Nat.zero_add, List.nil_append] at ho6
    have lt6 := fun j hj => (OwnG.lt ho6 j hj).2
    have wb6 := Below.grown wb5 hg6 wb5.size (fun j hj => by rw [ob_some, Option.some.injEq] at hj; omega)
    refine hK.out _ _ ?_ (fun hHeld => ?_)
    · try dsimp only
      exact HSx.out _ bel6
    clear hK K
    refine wpAnyH_take (i := 8) (oi := ⟨some 11, _, _, _, _, _⟩) (v := ?_) rfl (by kernel_rfl) (by kernel_rfl) (by kernel_rfl) (fun _ _ _ h => h) (Or.inl ⟨by rfl, ?_⟩) (by assumption) ?_
    rotate_left
    · intro w hSw
      try dsimp only at hSw
      go_simp
      try with_reducible rfl
    simp only [Act.put, List.setIfInBounds_toArray]
    refine wpAnyH_ready (rs := [9]) (by kernel_rfl) (by simp) ?_
    refine AllReadyH.cons rfl (fun K hK => ?_) AllReadyH.nil
    have zz : w.heap.size + 1 < w6.heap.size := by have := HS12.out; omega
    have r0 := (wb6.cell yL).trans y0
    have r1 := (wb6.cell yL).trans y1
    have rF : ∀ o, w6.frozen? ⟨w.heap.size + 1, o, none⟩ = false := fun o => (wb6.frozen yL).trans (yF o)
    go_simp
    refine hK.out _ _ ?_ (fun hHeld => ?_)
    · try dsimp only
      refine HSx.out _ ?_
      repeat (with_reducible refine Below.setCell ?_ ?_ _; rotate_left; (focus (have := HS12.out; simp; omega)))
      exact bel6
    clear hK K
    refine wpAnyH_done (by kernel_rfl) ?_ _
    clear hHeld
    go_wp2_with fail
    refine bodyPost_ret (v := .agg #[.slice a5 np c5, .slice a6 nb c6]) (by simp [results, Try.results48, go_sem, r0, r1]) rfl ⟨a5, c5, a6, c6, rfl, ?_, ?_, ?_, ?_⟩
    · have o1 := OwnG.grown oP6 (grown_cellG w6 (w.heap.size + 1) 0 (.slice a5 np c5)) (fun k hk e => by have h5 := (OwnG.lt oP6 k hk).1; have h6 := HS12.out; simp at e; omega)
      have o2 := OwnG.grown o1 (grown_cellG _ (w.heap.size + 1) 1 (.slice a6 nb c6)) (fun k hk e => by have h5 := (OwnG.lt oP6 k hk).1; have h6 := HS12.out; simp at e; omega)
      exact o2.mono (by have := HS12.out; omega)
    · have o1 := OwnG.grown ho6 (grown_cellG w6 (w.heap.size + 1) 0 (.slice a5 np c5)) (fun k hk e => by have h5 := (OwnG.lt ho6 k hk).1; have h6 := HS12.out; simp at e; omega)
      have o2 := OwnG.grown o1 (grown_cellG _ (w.heap.size + 1) 1 (.slice a6 nb c6)) (fun k hk e => by have h5 := (OwnG.lt ho6 k hk).1; have h6 := HS12.out; simp at e; omega)
      exact o2.mono (by have := HS12.out; omega)
    · intro k h1 h2
      have h7 := lt5 k h1
      have h8 := lt6 k h2
      rcases ht5 with rfl | rfl <;> rcases ht6 with rfl | rfl <;> rw [ob_some, Option.some.injEq] at h1 h2 <;> omega
    · refine HU.out.trans (Below.mono ?_ HU.out.size)
      repeat (with_reducible refine Below.setCell ?_ ?_ _; rotate_left; (focus (have := HS12.out; simp; omega)))
      exact bel6

end Go.Proofs.Ythbpehpnikknlaa
