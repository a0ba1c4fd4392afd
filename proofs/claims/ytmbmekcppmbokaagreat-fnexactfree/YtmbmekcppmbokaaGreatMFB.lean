/-
  slices.Clone at rows of pools and of blocks.
-/
import Derived.Test.YtmbmekcppmbokaaGreatVBlocks
import Derived.Lib.SliceRun
import Derived.Test.YtmbmekcppmbokaaGreatACmpS
import Derived.Test.YtmbmekcppmbokaaGreatPRow
import Derived.Test.YtmbmekcppmbokaaGreatMFA
import Derived.Test.YtmbmekcppmbokaaGreatVIPlan
import Derived.Test.YtmbmekcppmbokaaGreatBIPok
import Derived.Test.YtmbmekcppmbokaaGreatVSPlan
import Derived.Test.YtmbmekcppmbokaaGreatBSPok
import Derived.BigQuiet
namespace Go.Proofs.YtmbmekcppmbokaaGreat
open Go.RowKit

set_option maxHeartbeats 1000000 in
theorem clonePool (a : Option Addr) (n cap : Nat) (ps : List Pl) (w : World) (hn : n = ps.length) (hB : RowG KPl w a ps) (hl : n ≤ 1048576) :
    Calls Tryz.prog 59 #[.slice a n cap] w fun e w' => ∃ a' c', e = .returned (.slice a' n c') ∧ OwnG KPl 60 w' w.heap.size (.slice a' n c') ps ∧ Below w.heap.size w w' := by
  have hq : ∀ w, (binOp .eql 31 (.slice a n cap) (.slice none 0 0)).run Tryz.prog w = .ok (.bool a.isNone) w := fun w => Lib.run_eql_slice_nil w _ _ a n cap 0 0 Tryz.tyPl.1
  cases a with
  | none =>
    have hps : ps = [] := by
      cases ps with
      | nil => rfl
      | cons z t => obtain ⟨p, o, z', e, _⟩ := hB 0 (by simp); cases e
    subst hps
    have hn0 : n = 0 := hn
    subst hn0
    clear hB hn
    go_enter Tryz.func59, Tryz.ntmps59
    go_wp2_with fail
    go_ret
    exact ⟨none, 0, rfl, own_noneG KPl w w.heap.size 60, Below.refl _ _⟩
  | some ad =>
    have HB := hidP hB
    have HN := hidP hn
    clear hB hn
    have HZ := hidP (own_zeroG KPl w w.heap.size 60 (Nat.le_refl _))
    have HZB := hidP (alloc_below w (.cells #[] 60))
    go_enter Tryz.func59, Tryz.ntmps59
    go_wp2_with (at_builtin; refine wpList_appG Tryz.tyPl _ rfl (.tmp 5) (.tmp 6) 31 rfl w.heap.size (some ⟨w.heap.size, 0, none⟩) 0 0 n [] ps (.slice (some ad) n cap) rfl rfl HN.out HZ.out rfl (src_rowG Tryz.tyPl.1 n cap (by show 0 < 5; omega) HN.out (HB.out.later HZB.out) (fun h => by cases h)) (by omega) (by simp) ?_; intro a6 c6 w6 ho6 hg6 ht6)
    have HF := hidP (And.intro ho6 (below_appG HZB.out HZ.out (by simp) hg6))
    clear ho6 hg6 ht6
    go_wp2_with fail
    go_ret
    have h := HF.out
    rw [Nat.zero_add, List.nil_append] at h
    exact ⟨a6, c6, rfl, h.1, h.2⟩

set_option maxHeartbeats 1000000 in
theorem cloneBlock (a : Option Addr) (n cap : Nat) (ps : List Bk) (w : World) (hn : n = ps.length) (hB : RowG KBk w a ps) (hl : n ≤ 1048576) :
    Calls Tryz.prog 60 #[.slice a n cap] w fun e w' => ∃ a' c', e = .returned (.slice a' n c') ∧ OwnG KBk 62 w' w.heap.size (.slice a' n c') ps ∧ Below w.heap.size w w' := by
  have hq : ∀ w, (binOp .eql 32 (.slice a n cap) (.slice none 0 0)).run Tryz.prog w = .ok (.bool a.isNone) w := fun w => Lib.run_eql_slice_nil w _ _ a n cap 0 0 Tryz.tyBk.1
  cases a with
  | none =>
    have hps : ps = [] := by
      cases ps with
      | nil => rfl
      | cons z t => obtain ⟨p, o, z', e, _⟩ := hB 0 (by simp); cases e
    subst hps
    have hn0 : n = 0 := hn
    subst hn0
    clear hB hn
    go_enter Tryz.func60, Tryz.ntmps60
    go_wp2_with fail
    go_ret
    exact ⟨none, 0, rfl, own_noneG KBk w w.heap.size 62, Below.refl _ _⟩
  | some ad =>
    have HB := hidP hB
    have HN := hidP hn
    clear hB hn
    have HZ := hidP (own_zeroG KBk w w.heap.size 62 (Nat.le_refl _))
    have HZB := hidP (alloc_below w (.cells #[] 62))
    go_enter Tryz.func60, Tryz.ntmps60
    go_wp2_with (at_builtin; refine wpList_appG Tryz.tyBk _ rfl (.tmp 5) (.tmp 6) 32 rfl w.heap.size (some ⟨w.heap.size, 0, none⟩) 0 0 n [] ps (.slice (some ad) n cap) rfl rfl HN.out HZ.out rfl (src_rowG Tryz.tyBk.1 n cap (by show 0 < 5; omega) HN.out (HB.out.later HZB.out) (fun h => by cases h)) (by omega) (by simp) ?_; intro a6 c6 w6 ho6 hg6 ht6)
    have HF := hidP (And.intro ho6 (below_appG HZB.out HZ.out (by simp) hg6))
    clear ho6 hg6 ht6
    go_wp2_with fail
    go_ret
    have h := HF.out
    rw [Nat.zero_add, List.nil_append] at h
    exact ⟨a6, c6, rfl, h.1, h.2⟩

end Go.Proofs.YtmbmekcppmbokaaGreat

/-
  The laws' copies of plans, looks at them, and their sizes; the reading of a row of blocks.
-/
namespace Go.Proofs.YtmbmekcppmbokaaGreat
open Go.ChangeShapes Go.WideShapes Go.ChangeAt Go.RowKit Go.Joins Go.Deep

theorem rowsG_of2 {α : Type} {K : Kd α} {E : α → Prop} {W : World} (a : Option Addr) : ∀ n : Nat, (∀ j, j < n → ∃ p o q, a = some ⟨p, o, none⟩ ∧ p < W.heap.size ∧ (∀ i v, (K.cs q)[i]? = some v → W.cell? ⟨p, o + j * K.k + i, none⟩ = some v) ∧ E q) → ∃ ps : List α, ps.length = n ∧ RowG K W a ps ∧ ∀ q ∈ ps, E q
  | 0, _ => ⟨[], rfl, RowG.nil _ _ _, fun _ h => by cases h⟩
  | n + 1, h => by
      obtain ⟨ps, hl, hb, he⟩ := rowsG_of2 a n (fun j hj => h j (by omega))
      obtain ⟨p, o, q, ha, hp, c, hq⟩ := h n (by omega)
      refine ⟨ps ++ [q], by simp [hl], fun j hj => ?_, fun x hx => ?_⟩
      · by_cases hjn : j < n
        · obtain ⟨p', o', z, ha', hp', hz, hc'⟩ := hb j (by omega)
          exact ⟨p', o', z, ha', hp', by rw [List.getElem?_append_left (by omega)]; exact hz, hc'⟩
        · have : j = n := by simp at hj; omega
          subst this
          exact ⟨p, o, q, ha, hp, by rw [List.getElem?_append_right (by omega), hl]; simp, c⟩
      · rcases List.mem_append.1 hx with hx | hx
        · exact he x hx
        · rw [List.mem_singleton] at hx; subst hx; exact hq

/-- One out of its five cells. -/
theorem ofBk2 {H : Type} {enc : TypeId × Value → H} {W : World} {fuel : Nat} {cs : List Value} {x : DataW H × List MemPlace} (hl : cs.length = 5)
    (h : DataW.trod enc Tryz.prog W 0 (fun _ => true) true fuel 78 cs = some x) : ∃ q : Bk, cs = q.cs ∧ q.t.size ≤ 9223372036854775807 := by
  match cs, hl with
  | [c0, c1, c2, c3, c4], _ =>
    obtain ⟨z0, z1, n, hx, _, h0, h1⟩ := trod_struct2 Tryz.underlying78 h
    have k0 : Tryz.prog.cellsOf 29 = 4 := by kernel_rfl
    have kl : Tryz.prog.cellsOf 9 = 1 := by kernel_rfl
    simp [k0, kl] at h0 h1
    obtain ⟨p, hp⟩ := pf_of rfl h0
    obtain ⟨y, e1, _, wy⟩ := DataW.trod_string Tryz.underlying9 h1
    simp at e1
    subst e1
    have hp' : [c0, c1, c2, c3] = [.bool p.s, .int .i64 p.H.toInt, .int .i64 p.L.toInt, .int .i64 p.b] := hp
    simp only [List.cons.injEq, and_true] at hp'
    obtain ⟨rfl, rfl, rfl, rfl⟩ := hp'
    exact ⟨⟨p, y⟩, rfl, by unfold maxLen at wy; show y.size ≤ _; omega⟩

set_option maxRecDepth 100000 in
/-- The things out of the reading of a row of them. -/
theorem openBk2 {H : Type} {enc : TypeId × Value → H} {W : World} {a : Option Addr} {len cap : Nat} {d : DataW H} {p : List MemPlace}
    (h : DataW.Trod enc Tryz.prog W 0 (fun _ => true) true 23 (.slice a len cap) d p) : ∃ ps : List Bk, ps.length = len ∧ len ≤ 9223372036854775807 ∧ RowG KBk W a ps ∧ ∀ q ∈ ps, q.t.size ≤ 9223372036854775807 := by
  obtain ⟨fuel, hf⟩ := h
  rcases open_slice Tryz.underlying23 hf with ⟨hcs, _⟩ | ⟨a', len', cap', m, n, D, Plc, hcs, _, hl, hmx, hm, _, hV⟩
  · simp [Value.cells] at hcs
    obtain ⟨rfl, rfl, rfl⟩ := hcs
    exact ⟨[], rfl, by omega, RowG.nil _ _ _, fun _ h => by cases h⟩
  · simp [Value.cells] at hcs
    obtain ⟨rfl, rfl, rfl⟩ := hcs
    suffices h9 : ∃ ps : List Bk, ps.length = len ∧ RowG KBk W (some a') ps ∧ ∀ q ∈ ps, q.t.size ≤ 9223372036854775807 by
      obtain ⟨ps, h1, h2⟩ := h9
      exact ⟨ps, h1, by unfold maxLen at hmx; omega, h2⟩
    refine rowsG_of2 (E := fun q : Bk => q.t.size ≤ 9223372036854775807) _ _ fun j hj => ?_
    simp at hm
    obtain ⟨cs', h1, h2⟩ := hV j (by omega)
    rw [Tryz.cellsBk] at h1
    obtain ⟨_, hlen, hcell⟩ := World.cells?_some h1
    obtain ⟨q, rfl, hq9⟩ := ofBk2 hlen h2
    obtain ⟨p', o', sp⟩ := a'
    cases sp with
    | some r =>
      exfalso
      obtain ⟨cs0, g1, g2⟩ := hV 0 (by omega)
      rw [Tryz.cellsBk] at g1
      obtain ⟨_, glen, gcell⟩ := World.cells?_some g1
      obtain ⟨q0, rfl, _⟩ := ofBk2 glen g2
      have h0 := gcell 0 (by omega)
      rw [Nat.zero_mul, show Addr.add (Addr.add ⟨p', o', some r⟩ 0) 0 = ⟨p', o', some r⟩ from rfl] at h0
      unfold World.cell? at h0
      split at h0
      · simp [Bk.cs] at h0
      · cases h0
    | none =>
      have ea : ∀ i k : Nat, Addr.add (Addr.add ⟨p', o', none⟩ i) k = ⟨p', o' + i + k, none⟩ := fun i k => by
        have ea1 : ∀ (o k : Nat), Addr.add ⟨p', o, none⟩ k = ⟨p', o + k, none⟩ := fun o k => by unfold Addr.add; split <;> simp_all
        rw [ea1, ea1]
      have hall : ∀ i v, (KBk.cs q)[i]? = some v → W.cell? ⟨p', o' + j * KBk.k + i, none⟩ = some v := fun i v hv => by
        have hi : i < 5 := by
          rcases Nat.lt_or_ge i (KBk.cs q).length with h1 | h1
          · exact h1
          · rw [List.getElem?_eq_none h1] at hv; cases hv
        have e0 := hcell i hi
        rw [ea] at e0
        exact e0.trans hv
      exact ⟨p', o', q, rfl, World.block_lt_of_cell? W _ (hall 0 _ rfl), hall, hq9⟩

/-- How many bytes the owners have. -/
def sumT : List Bk → Nat
  | [] => 0
  | q :: t => q.t.size + sumT t
theorem sumT_app : ∀ xs ys : List Bk, sumT (xs ++ ys) = sumT xs + sumT ys
  | [], ys => by simp [sumT]
  | q :: t, ys => by simp [sumT, sumT_app t ys]; omega
theorem sumT_next {bs : List Bk} {k : Nat} {q : Bk} (h : bs[k]? = some q) : sumT (bs.take (k + 1)) = sumT (bs.take k) + q.t.size := by
  rw [List.take_add_one, h, sumT_app]; simp [sumT]
theorem sumT_le (bs : List Bk) (k : Nat) : sumT (bs.take k) ≤ sumT bs := by
  conv => rhs; rw [← List.take_append_drop k bs, sumT_app]
  omega

def szO (l : Int) (n : Nat) : Int := if l - (n : Int) < 0 then -1 else l - (n : Int)
def szB (n s : Nat) (l : Int) : Int := if (n : Int) + (s : Int) ≤ l then l - n - s else -1
def szT (t : Int) : Int := if t ≤ 1048576 then 1048576 - t else -1
theorem szO_yes {l : Int} {n : Nat} (h : l - (n : Int) < 0) : szO l n = -1 := by unfold szO; rw [if_pos h]
theorem szO_no {l : Int} {n : Nat} (h : ¬ l - (n : Int) < 0) : szO l n = l - (n : Int) := by unfold szO; rw [if_neg h]
theorem szB_yes {n s : Nat} {l : Int} (h : (n : Int) + (s : Int) ≤ l) : szB n s l = l - n - s := by unfold szB; rw [if_pos h]
theorem szB_no {n s : Nat} {l : Int} (h : ¬ (n : Int) + (s : Int) ≤ l) : szB n s l = -1 := by unfold szB; rw [if_neg h]
theorem szT_yes {t : Int} (h : t ≤ 1048576) : szT t = 1048576 - t := by unfold szT; rw [if_pos h]
theorem szT_no {t : Int} (h : ¬ t ≤ 1048576) : szT t = -1 := by unfold szT; rw [if_neg h]

set_option maxHeartbeats 400000 in
theorem szBlock_any (q : Bk) (l : Int) (h0 : 0 ≤ l) (h1 : l ≤ 1048576) (h9 : q.t.size ≤ 9223372036854775807) (w : World) :
    Calls Tryz.prog 45 #[.agg #[.bool q.p.s, .int .i64 q.p.H.toInt, .int .i64 q.p.L.toInt, .int .i64 q.p.b, .string q.t], .int .i64 l] w fun e w' => e = .returned (.int .i64 (szO l q.t.size)) ∧ Below w.heap.size w w' := by
  by_cases hd : l - (q.t.size : Int) < 0
  · rw [szO_yes hd]
    go_enter Tryz.func45, Tryz.ntmps45
    go_wp2
    go_ret
    exact ⟨rfl, (Below.refl _ _).alloc (Nat.le_refl _) _⟩
  · rw [szO_no hd]
    have hd2 : decide (l - (q.t.size : Int) < 0) = false := decide_eq_false hd
    go_enter Tryz.func45, Tryz.ntmps45
    go_wp2
    go_ret
    exact ⟨rfl, (Below.refl _ _).alloc (Nat.le_refl _) _⟩

set_option maxHeartbeats 1000000 in
theorem szBlockS_any (a : Option Addr) (n cap : Nat) (bs : List Bk) (l : Int) (h0 : 0 ≤ l) (h1 : l ≤ 1048576) (w : World) (hn : n = bs.length) (hB : RowG KBk w a bs) (h9 : n ≤ 9223372036854775807) (hst : ∀ q ∈ bs, q.t.size ≤ 9223372036854775807) :
    Calls Tryz.prog 17 #[.slice a n cap, .int .i64 l] w fun e w' => e = .returned (.int .i64 (szB n (sumT bs) l)) ∧ Below w.heap.size w w' := by
  have HB := hidP hB
  have HN := hidP hn
  have HST := hidP hst
  clear hB hn hst
  by_cases hnl : l < (n : Int)
  · rw [szB_no (by omega)]
    have d1 : decide (l - (n : Int) < 0) = true := decide_eq_true (by omega)
    go_enter Tryz.func17, Tryz.ntmps17
    go_wp2
    go_ret
    exact ⟨rfl, Below.refl _ _⟩
  · have d1 : decide (l - (n : Int) < 0) = false := decide_eq_false (by omega)
    have d2 : ¬ (l - (n : Int) < 0) := by omega
    go_enter Tryz.func17, Tryz.ntmps17
    go_wp2_with fail
    go_loopw [1, 5] (fun t1 t5 wr => ∃ (k : Nat) (z : Int), k ≤ n ∧ t5 = .int .i64 k ∧ t1 = .int .i64 z ∧ z = l - n - sumT (bs.take k) ∧ 0 ≤ z ∧ Below w.heap.size w wr) (fun _ t5 _ => n - (intOf t5).toNat)
    case atStart => exact ⟨0, l - n, Nat.zero_le _, rfl, rfl, by simp [sumT], by omega, Below.refl _ _⟩
    case round =>
      obtain ⟨k, z, hk, rfl, rfl, hz, hz0, hbel⟩ := hrel
      by_cases hlt : k < n
      · obtain ⟨p, o, q, rfl, hp, hq, c0, c1, c2, c3, c4⟩ := rowBk HB.out k (by rw [← HN.out]; exact hlt)
        have d0 := (hbel.cell hp).trans c0
        have d1 := (hbel.cell hp).trans c1
        have d2 := (hbel.cell hp).trans c2
        have d3 := (hbel.cell hp).trans c3
        have d4 := (hbel.cell hp).trans c4
        have HBel := hidP hbel
        have HNx := hidP (sumT_next hq)
        have HLe := hidP (sumT_le bs (k + 1))
        have hz1 : z ≤ 1048576 := by omega
        have HZ := hidP hz
        have HS := hidP (szBlock_any q z hz0 hz1 (HST.out q (List.mem_of_getElem? hq)))
        clear c0 c1 c2 c3 c4 hq hbel hz
        by_cases hd : z - (q.t.size : Int) < 0
        · rw [szO_yes hd] at HS
          have HF : Hid (¬ ((n : Int) + (sumT bs : Int) ≤ l)) := hidP (by have := HZ.out; have := HNx.out; have := HLe.out; omega)
          go_wp2_with fail
          refine (HS.out _).mono ?_
          rintro e w2 ⟨rfl, hb2⟩
          have HB2 := hidP (HBel.out.trans (hb2.mono HBel.out.size))
          clear hb2 HBel d0 d1 d2 d3 d4
          go_wp2_with fail
          go_ret
          exact ⟨ret_i (szB_no (by have := HF.out; omega)).symm, HB2.out⟩
        · rw [szO_no hd] at HS
          have hd2 : decide (z - (q.t.size : Int) < 0) = false := decide_eq_false hd
          go_wp2_with fail
          refine (HS.out _).mono ?_
          rintro e w2 ⟨rfl, hb2⟩
          have HB2 := hidP (HBel.out.trans (hb2.mono HBel.out.size))
          clear hb2 HBel d0 d1 d2 d3 d4
          go_wp2_with fail
          go_roundw
          case rel => exact ⟨k + 1, z - (q.t.size : Int), by omega, by go_num, rfl, by have := HZ.out; have := HNx.out; omega, by omega, HB2.out⟩
          case measure => simp [intOf]; omega
      · have hkn : k = n := by omega
        have HF : Hid ((n : Int) + (sumT bs : Int) ≤ l ∧ z = l - n - sumT bs) := by
          rw [List.take_of_length_le (by have := HN.out; omega)] at hz
          exact hidP ⟨by omega, hz⟩
        have HBel := hidP hbel
        clear hbel hz
        go_wp2_with fail
        go_ret
        exact ⟨ret_i (by rw [szB_yes HF.out.1, ← HF.out.2]), HBel.out⟩

theorem box2L (w : World) (t : TypeId) (u v : Value) : (w.alloc (.cells #[u, v] t)).cell? ⟨w.heap.size, 0, none⟩ = some u ∧ (w.alloc (.cells #[u, v] t)).cell? ⟨w.heap.size, 1, none⟩ = some v := ⟨by simp [go_sem], by simp [go_sem]⟩
/-- How much of a law's room a plan takes. -/
def totP (ps : List Pl) (bs : List Bk) : Int := ps.length + (bs.length + sumT bs)

set_option maxHeartbeats 1000000 in
theorem szPlan_any (ap : Option Addr) (np cp : Nat) (ab : Option Addr) (nb cb : Nat) (ps : List Pl) (bs : List Bk) (w : World) (hnp : np = ps.length) (hnb : nb = bs.length) (hK : RowG KBk w ab bs) (h9 : np ≤ 9223372036854775807) (h9' : nb ≤ 9223372036854775807) (hst : ∀ q ∈ bs, q.t.size ≤ 9223372036854775807) :
    Calls Tryz.prog 5 #[.agg #[.slice ap np cp, .slice ab nb cb], .int .i64 1048576] w fun e w' => e = .returned (.int .i64 (szT (totP ps bs))) ∧ Below w.heap.size w w' := by
  unfold totP
  rw [← hnp, ← hnb]
  by_cases hl : (np : Int) ≤ 1048576
  · have HP := hidP (szPoolS_any ap np cp 1048576 hl (Int.le_refl _))
    have HBk := hidP (fun W h => szBlockS_any ab nb cb bs (1048576 - np) (by omega) (by omega) W hnb (hK.later h) h9' hst)
    have hz0 : ¬ (1048576 - (np : Int) < 0) := by omega
    have hz1 : decide (1048576 - (np : Int) < 0) = false := decide_eq_false hz0
    clear hK hnp hnb hst
    by_cases ht : (nb : Int) + (sumT bs : Int) ≤ 1048576 - np
    · rw [szB_yes ht] at HBk
      rw [szT_yes (by omega)]
      have hz2 : decide (1048576 - (np : Int) - (nb : Int) - (sumT bs : Int) < 0) = false := decide_eq_false (by omega)
      generalize he : (1048576 - (np : Int) - (nb : Int) - (sumT bs : Int)) = z at *
      have hz3 : ¬ z < 0 := by omega
      have HE := hidP he
      clear he
      go_enter Tryz.func5, Tryz.ntmps5
      go_wp2_with fail
      obtain ⟨u0, u1⟩ := box2 (u := .slice ap np cp) (v := .slice ab nb cb) w 25
      have uB := alloc_below w (.cells #[.slice ap np cp, .slice ab nb cb] 25)
      have uL := alloc_lt w (.cells #[.slice ap np cp, .slice ab nb cb] 25)
      have uS : (w.alloc (.cells #[.slice ap np cp, .slice ab nb cb] 25)).heap.size = w.heap.size + 1 := by simp
      generalize w.alloc (.cells #[.slice ap np cp, .slice ab nb cb] 25) = W1 at *
      have HU := hidP uB
      refine (HP.out _).mono ?_
      rintro e w1 ⟨rfl, rfl⟩
      clear uB uS
      go_wp2_with fail
      refine (HBk.out _ HU.out).mono ?_
      rintro e w2 ⟨rfl, hb2⟩
      have HB2 := hidP hb2
      clear hb2
      go_wp2_with fail
      go_ret
      exact ⟨ret_i (by have := HE.out; omega), HU.out.trans (HB2.out.mono HU.out.size)⟩
    · rw [szB_no ht] at HBk
      rw [szT_no (by omega)]
      go_enter Tryz.func5, Tryz.ntmps5
      go_wp2_with fail
      obtain ⟨u0, u1⟩ := box2 (u := .slice ap np cp) (v := .slice ab nb cb) w 25
      have uB := alloc_below w (.cells #[.slice ap np cp, .slice ab nb cb] 25)
      have uL := alloc_lt w (.cells #[.slice ap np cp, .slice ab nb cb] 25)
      have uS : (w.alloc (.cells #[.slice ap np cp, .slice ab nb cb] 25)).heap.size = w.heap.size + 1 := by simp
      generalize w.alloc (.cells #[.slice ap np cp, .slice ab nb cb] 25) = W1 at *
      have HU := hidP uB
      refine (HP.out _).mono ?_
      rintro e w1 ⟨rfl, rfl⟩
      clear uB uS
      go_wp2_with fail
      refine (HBk.out _ HU.out).mono ?_
      rintro e w2 ⟨rfl, hb2⟩
      have HB2 := hidP hb2
      clear hb2
      go_wp2_with fail
      go_ret
      exact ⟨rfl, HU.out.trans (HB2.out.mono HU.out.size)⟩
  · have HP := hidP (szPoolS_big ap np cp 1048576 (by omega) (by omega) h9)
    rw [szT_no (by omega)]
    clear hK hnp hnb hst
    go_enter Tryz.func5, Tryz.ntmps5
    go_wp2_with fail
    refine (HP.out _).mono ?_
    rintro e w1 ⟨rfl, rfl⟩
    go_wp2_with fail
    go_ret
    exact ⟨rfl, (Below.refl _ _).alloc (Nat.le_refl _) _⟩

set_option maxHeartbeats 1000000 in
theorem toPlan_any (ap : Option Addr) (np cp : Nat) (ab : Option Addr) (nb cb : Nat) (ps : List Pl) (bs : List Bk) (w : World) (hnp : np = ps.length) (hnb : nb = bs.length) (hP : RowG KPl w ap ps) (hK : RowG KBk w ab bs) (hl : np ≤ 1048576) (hl' : nb ≤ 1048576) :
    Calls Tryz.prog 7 #[.agg #[.slice ap np cp, .slice ab nb cb]] w fun e w' => ∃ g h, e = .returned (.agg #[.slice (some ⟨g, 0, none⟩) np np, .slice (some ⟨h, 0, none⟩) nb nb]) ∧ OwnG KPl 60 w' w.heap.size (.slice (some ⟨g, 0, none⟩) np np) ps ∧ OwnG KBk 62 w' w.heap.size (.slice (some ⟨h, 0, none⟩) nb nb) bs ∧ g ≠ h ∧ Below w.heap.size w w' := by
  have HTP := hidP (fun W h => toPoolS_any ap np cp ps W hnp (hP.later h) hl)
  have HTB := hidP (fun W h => toBlockS_any ab nb cb bs W hnb (hK.later h) hl')
  clear hP hK hnp hnb
  go_enter Tryz.func7, Tryz.ntmps7
  go_wp2_with fail
  refine (HTP.out _ ?_).mono ?_
  · repeat (first | with_reducible exact Below.refl _ _ | (with_reducible refine Below.drew ?_) | (with_reducible refine Below.alloc ?_ ?_ _; rotate_left; (focus (first | omega | (simp; omega) | (simp; done)))) | (with_reducible refine Below.setCell ?_ ?_ _; rotate_left; (focus (first | omega | (simp; omega) | (simp; done)))))
  rintro e w1 ⟨g, rfl, og, hb1⟩
  have hz1 := hb1.size
  try simp at hz1
  have hgl := OwnG.lt og g rfl
  try simp at hgl
  have f10 : w.heap.size < w1.heap.size := by omega
  have f11 : w.heap.size + 1 < w1.heap.size := by omega
  have f12 : w.heap.size + 2 < w1.heap.size := by omega
  refine olds_k (w.heap.size + 3) hb1 ?_ ?_
  · first | omega | (simp; omega) | (simp; done)
  intro hc1 hf1
  have OG := hidP og
  clear og
  go_wp2_with fail
  refine (HTB.out _ ?_).mono ?_
  · repeat (first | with_reducible exact Below.refl _ _ | (with_reducible refine Below.drew ?_) | (with_reducible refine Below.alloc ?_ ?_ _; rotate_left; (focus (first | omega | (simp; omega) | (simp; done)))) | (with_reducible refine Below.setCell ?_ ?_ _; rotate_left; (focus (first | omega | (simp; omega) | (simp; done)))) | (with_reducible refine Below.trans ?_ (hb1.mono ?_); rotate_left; (focus (first | omega | (simp; omega) | (simp; done)))))
  rintro e w2 ⟨h, rfl, oh, hb2⟩
  have hz2 := hb2.size
  try simp at hz2
  have hhl := OwnG.lt oh h rfl
  try simp at hhl
  have f20 : w.heap.size < w2.heap.size := by omega
  have f21 : w.heap.size + 1 < w2.heap.size := by omega
  have f22 : w.heap.size + 2 < w2.heap.size := by omega
  refine olds_k (w1.heap.size) hb2 ?_ ?_
  · first | omega | (simp; omega) | (simp; done)
  intro hc2 hf2
  have OH := hidP oh
  clear oh
  have OG2 := hidP ((OwnG.grown OG.out (grown_cellG w1 (w.heap.size + 2) 0 (.slice (some ⟨g, 0, none⟩) np np)) (fun k hk => by simp [Value.ownBlock] at hk; subst hk; intro hh; simp at hh; omega)).later hb2)
  have hgh : g ≠ h := by omega
  have q0 : w2.cell? ⟨w.heap.size + 1, 0, none⟩ = some (.slice none 0 0) := by rw [hc2 _ _ f11]; simp [go_sem, hc1]
  have q1 : w2.cell? ⟨w.heap.size + 1, 1, none⟩ = some (.slice none 0 0) := by rw [hc2 _ _ f11]; simp [go_sem, hc1]
  go_wp2_with fail
  refine bodyPost_ret (v := .agg #[.slice (some ⟨g, 0, none⟩) np np, .slice (some ⟨h, 0, none⟩) nb nb]) (by simp [results, Tryz.results7, go_sem, q0, q1]) rfl ⟨g, h, rfl, ?_, ?_, hgh, ?_⟩
  · have o1 := OwnG.grown OG2.out (grown_cellG w2 (w.heap.size + 1 + 1) 1 (.slice (some ⟨h, 0, none⟩) nb nb)) (fun k hk => by simp [Value.ownBlock] at hk; subst hk; intro hh; simp at hh; omega)
    have o2 := OwnG.grown o1 (grown_cellG _ (w.heap.size + 1) 0 (.slice (some ⟨g, 0, none⟩) np np)) (fun k hk => by simp [Value.ownBlock] at hk; subst hk; intro hh; simp at hh; omega)
    have o3 := OwnG.grown o2 (grown_cellG _ (w.heap.size + 1) 1 (.slice (some ⟨h, 0, none⟩) nb nb)) (fun k hk => by simp [Value.ownBlock] at hk; subst hk; intro hh; simp at hh; omega)
    exact o3.mono (by simp; omega)
  · have o1 := OwnG.grown OH.out (grown_cellG w2 (w.heap.size + 1 + 1) 1 (.slice (some ⟨h, 0, none⟩) nb nb)) (fun k hk => by simp [Value.ownBlock] at hk; subst hk; intro hh; simp at hh; omega)
    have o2 := OwnG.grown o1 (grown_cellG _ (w.heap.size + 1) 0 (.slice (some ⟨g, 0, none⟩) np np)) (fun k hk => by simp [Value.ownBlock] at hk; subst hk; intro hh; simp at hh; omega)
    have o3 := OwnG.grown o2 (grown_cellG _ (w.heap.size + 1) 1 (.slice (some ⟨h, 0, none⟩) nb nb)) (fun k hk => by simp [Value.ownBlock] at hk; subst hk; intro hh; simp at hh; omega)
    exact o3.mono (by simp; omega)
  · repeat (first | with_reducible exact Below.refl _ _ | (with_reducible refine Below.drew ?_) | (with_reducible refine Below.alloc ?_ ?_ _; rotate_left; (focus (first | omega | (simp; omega) | (simp; done)))) | (with_reducible refine Below.setCell ?_ ?_ _; rotate_left; (focus (first | omega | (simp; omega) | (simp; done)))) | (with_reducible refine Below.trans ?_ (hb2.mono ?_); rotate_left; (focus (first | omega | (simp; omega) | (simp; done)))) | (with_reducible refine Below.trans ?_ (hb1.mono ?_); rotate_left; (focus (first | omega | (simp; omega) | (simp; done)))))

set_option maxHeartbeats 1000000 in
theorem eqPlan_same (ap ap' : Option Addr) (np cp cp' : Nat) (ab ab' : Option Addr) (nb cb cb' : Nat) (ps : List Pl) (bs : List Bk) (w : World) (hnp : np = ps.length) (hnb : nb = bs.length) (hP : RowG KPl w ap ps) (hP' : RowG KPl w ap' ps) (hK : RowG KBk w ab bs) (hK' : RowG KBk w ab' bs) (hl : np ≤ 9000000000) (hl' : nb ≤ 9000000000) :
    Calls Tryz.prog 10 #[.agg #[.slice ap np cp, .slice ab nb cb], .agg #[.slice ap' np cp', .slice ab' nb cb']] w fun e w' => e = .returned (.bool true) ∧ Below w.heap.size w w' := by
  have HTP := hidP (fun W h => eqPoolS_same ap ap' np cp cp' ps W hnp (hP.later h) (hP'.later h) hl)
  have HTB := hidP (fun W h => eqBlockS_same ab ab' nb cb cb' bs W hnb (hK.later h) (hK'.later h) hl')
  clear hP hP' hK hK' hnp hnb
  go_enter Tryz.func10, Tryz.ntmps10
  go_wp2_with fail
  refine (HTP.out _ ?_).mono ?_
  · repeat (first | with_reducible exact Below.refl _ _ | (with_reducible refine Below.drew ?_) | (with_reducible refine Below.alloc ?_ ?_ _; rotate_left; (focus (first | omega | (simp; omega) | (simp; done)))) | (with_reducible refine Below.setCell ?_ ?_ _; rotate_left; (focus (first | omega | (simp; omega) | (simp; done)))))
  rintro e w1 ⟨rfl, hb1⟩
  have hz1 := hb1.size
  try simp at hz1
  have f10 : w.heap.size < w1.heap.size := by omega
  have f11 : w.heap.size + 1 < w1.heap.size := by omega
  refine olds_k (w.heap.size + 2) hb1 ?_ ?_
  · first | omega | (simp; omega) | (simp; done)
  intro hc1 hf1
  go_wp2_with fail
  refine (HTB.out _ ?_).mono ?_
  · repeat (first | with_reducible exact Below.refl _ _ | (with_reducible refine Below.drew ?_) | (with_reducible refine Below.alloc ?_ ?_ _; rotate_left; (focus (first | omega | (simp; omega) | (simp; done)))) | (with_reducible refine Below.setCell ?_ ?_ _; rotate_left; (focus (first | omega | (simp; omega) | (simp; done)))) | (with_reducible refine Below.trans ?_ (hb1.mono ?_); rotate_left; (focus (first | omega | (simp; omega) | (simp; done)))))
  rintro e w2 ⟨rfl, hb2⟩
  go_wp2_with fail
  go_ret
  refine ⟨rfl, ?_⟩
  repeat (first | with_reducible exact Below.refl _ _ | (with_reducible refine Below.drew ?_) | (with_reducible refine Below.alloc ?_ ?_ _; rotate_left; (focus (first | omega | (simp; omega) | (simp; done)))) | (with_reducible refine Below.setCell ?_ ?_ _; rotate_left; (focus (first | omega | (simp; omega) | (simp; done)))) | (with_reducible refine Below.trans ?_ (hb2.mono ?_); rotate_left; (focus (first | omega | (simp; omega) | (simp; done)))) | (with_reducible refine Below.trans ?_ (hb1.mono ?_); rotate_left; (focus (first | omega | (simp; omega) | (simp; done)))))

end Go.Proofs.YtmbmekcppmbokaaGreat

/-
  The program's ownPlan: a plan of the same things in rows of its own.
-/
namespace Go.Proofs.YtmbmekcppmbokaaGreat
open Go.RowKit

theorem frz2 (w : World) (t : TypeId) (u v : Value) (o : Nat) : (w.alloc (.cells #[u, v] t)).frozen? ⟨w.heap.size, o, none⟩ = false := by simp [go_sem]

set_option maxRecDepth 10000 in
set_option maxHeartbeats 2000000 in
theorem ownPlan_any (ap : Option Addr) (np cp : Nat) (ab : Option Addr) (nb cb : Nat) (ps : List Pl) (bs : List Bk) (w : World) (hnp : np = ps.length) (hnb : nb = bs.length) (hP : RowG KPl w ap ps) (hK : RowG KBk w ab bs) (hl : np ≤ 1048576) (hl' : nb ≤ 1048576) :
    Calls Tryz.prog 29 #[.agg #[.slice ap np cp, .slice ab nb cb]] w fun e w' => ∃ a c b d, e = .returned (.agg #[.slice a np c, .slice b nb d]) ∧ OwnG KPl 60 w' w.heap.size (.slice a np c) ps ∧ OwnG KBk 62 w' w.heap.size (.slice b nb d) bs ∧ (∀ k, (Value.slice a np c).ownBlock = some k → (Value.slice b nb d).ownBlock ≠ some k) ∧ Below w.heap.size w w' := by
  have HCP := hidP (fun W h => clonePool ap np cp ps W hnp (hP.later h) hl)
  have HCB := hidP (fun W h => cloneBlock ab nb cb bs W hnb (hK.later h) hl')
  clear hP hK hnp hnb
  go_enter Tryz.func29, Tryz.ntmps29
  go_wp2_with fail
  obtain ⟨u0, u1⟩ := box2 (u := .slice ap np cp) (v := .slice ab nb cb) w 34
  have uB := alloc_below w (.cells #[.slice ap np cp, .slice ab nb cb] 34)
  have uL := alloc_lt w (.cells #[.slice ap np cp, .slice ab nb cb] 34)
  have uS : (w.alloc (.cells #[.slice ap np cp, .slice ab nb cb] 34)).heap.size = w.heap.size + 1 := by simp
  generalize w.alloc (.cells #[.slice ap np cp, .slice ab nb cb] 34) = W1 at *
  have yF := frz2 W1 34 (.slice none 0 0) (.slice none 0 0)
  obtain ⟨y0, y1⟩ := box2 (u := .slice none 0 0) (v := .slice none 0 0) W1 34
  have yB := alloc_below W1 (.cells #[.slice none 0 0, .slice none 0 0] 34)
  have yL := alloc_lt W1 (.cells #[.slice none 0 0, .slice none 0 0] 34)
  have yS : (W1.alloc (.cells #[.slice none 0 0, .slice none 0 0] 34)).heap.size = W1.heap.size + 1 := by simp
  generalize W1.alloc (.cells #[.slice none 0 0, .slice none 0 0] 34) = W2 at *
  rw [uS] at y0 y1 yL yS
  rw [uS] at yF
  have HU := hidP uB
  have HY := hidP yB.drew
  have hs1 : W1.heap.size = w.heap.size + 1 := uS
  have hs2 : W2.heap.size = w.heap.size + 1 + 1 := yS
  have HS12 := hidP (And.intro hs1 hs2)
  clear uB yB uS yS hs1 hs2
  have HSx : Hid (∀ x, Below W1.heap.size W1 x → (x.cell? ⟨w.heap.size, 0, none⟩ = some (.slice ap np cp) ∧ x.cell? ⟨w.heap.size, 1, none⟩ = some (.slice ab nb cb) ∧ Below W1.heap.size W1 x)) := hidP fun x h =>
    ⟨(h.cell uL).trans u0, (h.cell uL).trans u1, h⟩
  refine wp_region_held_drew (S := (fun x => x.cell? ⟨w.heap.size, 0, none⟩ = some (.slice ap np cp) ∧ x.cell? ⟨w.heap.size, 1, none⟩ = some (.slice ab nb cb) ∧ Below W1.heap.size W1 x)) (by kernel_rfl) ?_ (fun hHeld => ?_)
  · try dsimp only
    exact HSx.out _ (HY.out)
  refine wpAnyH_take (i := 0) (oi := ⟨some 3, _, _, _, _, _⟩) (v := ?_) rfl (by kernel_rfl) (by kernel_rfl) (by kernel_rfl) (fun _ _ _ h => h) (Or.inl ⟨by rfl, ?_⟩) (by assumption) ?_
  rotate_left
  · intro w hSw
    try dsimp only at hSw
    go_simp
    try with_reducible rfl
  simp only [Act.put, List.setIfInBounds_toArray, List.set_cons_zero, List.set_cons_succ]
  refine wpAnyH_take (i := 1) (oi := ⟨some 4, _, _, _, _, _⟩) (v := ?_) rfl (by kernel_rfl) (by kernel_rfl) (by kernel_rfl) (fun _ _ _ h => h) (Or.inl ⟨by rfl, ?_⟩) (by assumption) ?_
  rotate_left
  · intro w hSw
    try dsimp only at hSw
    go_simp
    try with_reducible rfl
  simp only [Act.put, List.setIfInBounds_toArray, List.set_cons_zero, List.set_cons_succ]
  refine wpAnyH_take (i := 3) (oi := ⟨some 6, _, _, _, _, _⟩) (v := ?_) rfl (by kernel_rfl) (by kernel_rfl) (by kernel_rfl) (fun _ _ _ h => h) (Or.inl ⟨by rfl, ?_⟩) (by assumption) ?_
  rotate_left
  · intro w hSw
    try dsimp only at hSw
    go_simp
    try with_reducible rfl
  simp only [Act.put, List.setIfInBounds_toArray, List.set_cons_zero, List.set_cons_succ]
  refine wpAnyH_take (i := 4) (oi := ⟨some 7, _, _, _, _, _⟩) (v := ?_) rfl (by kernel_rfl) (by kernel_rfl) (by kernel_rfl) (fun _ _ _ h => h) (Or.inl ⟨by rfl, ?_⟩) (by assumption) ?_
  rotate_left
  · intro w hSw
    try dsimp only at hSw
    go_simp
    try with_reducible rfl
  simp only [Act.put, List.setIfInBounds_toArray, List.set_cons_zero, List.set_cons_succ]
  refine wpAnyH_ready (rs := [2]) (by kernel_rfl) (by simp) ?_
  refine AllReadyH.cons rfl (fun K hK => ?_) AllReadyH.nil
  go_simp
  go_wp2_with (first | (go_at_call 59; refine (HCP.out _ (HU.out.trans ((hHeld.2.2).mono HU.out.size))).mono ?_; rintro e w3 ⟨a3, c3, rfl, og3, hb3⟩; have b3 := (hHeld.2.2).trans (hb3.mono (hHeld.2.2).size)))
  refine hK.out _ _ ?_ (fun hHeld => ?_)
  · try dsimp only
    exact HSx.out _ b3
  clear hK K
  refine wpAnyH_ready (rs := [5]) (by kernel_rfl) (by simp) ?_
  refine AllReadyH.cons rfl (fun K hK => ?_) AllReadyH.nil
  go_simp
  go_wp2_with (first | (go_at_call 60; refine (HCB.out _ (HU.out.trans ((hHeld.2.2).mono HU.out.size))).mono ?_; rintro e w4 ⟨a4, c4, rfl, oh4, hb4⟩; have b4 := (hHeld.2.2).trans (hb4.mono (hHeld.2.2).size)))
  refine hK.out _ _ ?_ (fun hHeld => ?_)
  · try dsimp only
    exact HSx.out _ b4
  clear hK K
  refine wpAnyH_take (i := 6) (oi := ⟨some 9, _, _, _, _, _⟩) (v := ?_) rfl (by kernel_rfl) (by kernel_rfl) (by kernel_rfl) (fun _ _ _ h => h) (Or.inl ⟨by rfl, ?_⟩) (by assumption) ?_
  rotate_left
  · intro w hSw
    try dsimp only at hSw
    go_simp
    try with_reducible rfl
  simp only [Act.put, List.setIfInBounds_toArray, List.set_cons_zero, List.set_cons_succ]
  have HO3 := hidP (og3.later (show Below w3.heap.size w3 w4 from hb4))
  have HO4 := hidP oh4
  have l3 := fun k hk => OwnG.lt og3 k hk
  have l4 := fun k hk => OwnG.lt oh4 k hk
  have z34 : w.heap.size + 1 < w3.heap.size := Nat.lt_of_lt_of_le yL hb3.size
  have r0 := (hb4.cell z34).trans ((hb3.cell yL).trans y0)
  have r1 := (hb4.cell z34).trans ((hb3.cell yL).trans y1)
  have rF : ∀ o, w4.frozen? ⟨w.heap.size + 1, o, none⟩ = false := fun o => (hb4.frozen z34).trans ((hb3.frozen yL).trans (yF o))
  have LL := hidP (And.intro l3 (And.intro l4 (And.intro hb3.size hb4.size)))
  clear l3 l4
  refine wpAnyH_ready (rs := [7]) (by kernel_rfl) (by simp) ?_
  refine AllReadyH.cons rfl (fun K hK => ?_) AllReadyH.nil
  go_simp
  refine hK.out _ _ ?_ (fun hHeld => ?_)
  · try dsimp only
    refine HSx.out _ ?_
    repeat (with_reducible refine Below.setCell ?_ ?_ _; rotate_left; (focus (have := HS12.out; simp; omega)))
    exact hHeld.2.2
  clear hK K
  have HE := hidP (hHeld.2.2)
  refine wpAnyH_done (by kernel_rfl) ?_ _
  clear hHeld
  go_wp2_with fail
  refine bodyPost_ret (v := .agg #[.slice a3 np c3, .slice a4 nb c4]) (by simp [results, Tryz.results29, go_sem, r0, r1]) rfl ⟨a3, c3, a4, c4, rfl, ?_, ?_, ?_, ?_⟩
  · have o1 := OwnG.grown HO3.out (grown_cellG w4 (w.heap.size + 1) 0 (.slice a3 np c3)) (fun k hk e => by have h5 : W2.heap.size ≤ k := (LL.out.1 k hk).1; have h6 := HS12.out; simp at e; omega)
    have o2 := OwnG.grown o1 (grown_cellG _ (w.heap.size + 1) 1 (.slice a4 nb c4)) (fun k hk e => by have h5 : W2.heap.size ≤ k := (LL.out.1 k hk).1; have h6 := HS12.out; simp at e; omega)
    exact o2.mono (show w.heap.size ≤ W2.heap.size by have := HS12.out; omega)
  · have o1 := OwnG.grown HO4.out (grown_cellG w4 (w.heap.size + 1) 0 (.slice a3 np c3)) (fun k hk e => by have h5 : w3.heap.size ≤ k := (LL.out.2.1 k hk).1; have h7 : W2.heap.size ≤ w3.heap.size := LL.out.2.2.1; have h6 := HS12.out; simp at e; omega)
    have o2 := OwnG.grown o1 (grown_cellG _ (w.heap.size + 1) 1 (.slice a4 nb c4)) (fun k hk e => by have h5 : w3.heap.size ≤ k := (LL.out.2.1 k hk).1; have h7 : W2.heap.size ≤ w3.heap.size := LL.out.2.2.1; have h6 := HS12.out; simp at e; omega)
    exact o2.mono (show w.heap.size ≤ w3.heap.size by have h7 : W2.heap.size ≤ w3.heap.size := LL.out.2.2.1; have := HS12.out; omega)
  · intro k h1 h2
    have l1 := LL.out.1 k h1
    have l2 := LL.out.2.1 k h2
    omega
  · exact HU.out.trans (HE.out.mono HU.out.size)

end Go.Proofs.YtmbmekcppmbokaaGreat

/-
  Prefixes compared.
-/
namespace Go.Proofs.YtmbmekcppmbokaaGreat
open Go.RowKit

def peqB (p q : Pf) : Bool := (p.s == q.s && (p.H.toInt == q.H.toInt && p.L.toInt == q.L.toInt)) && p.b == q.b
theorem eqSt9 (a : Bool) (b c : Int) (d : Bool) (e f : Int) (w : World) : (Op.equalIn 9999 35 (.agg #[.bool a, .int .i64 b, .int .i64 c]) (.agg #[.bool d, .int .i64 e, .int .i64 f])).run Tryz.prog w = .ok (a == d && (b == e && c == f)) w := by
  have u3 := Tryz.underlying3
  have a3 := Tryz.isAgg3
  have z3 := Tryz.sizeOf3
  have u4 := Tryz.underlying4
  have a4 := Tryz.isAgg4
  have z4 := Tryz.sizeOf4
  have hS : Tryz.prog.underlying 35 = some (.struct (Tryz.prog.fieldsOf 35)) := by kernel_rfl
  have hp : Tryz.prog.stoodInHeld 35 = false := by kernel_rfl
  rw [show (9999 : Nat) = 9998 + 1 from rfl, run_equalIn_agg w 9998 35 _ _ hS hp]
  simp only [Program.fieldsOf, Tryz.underlying35]
  go_simp
  by_cases h1 : a = d <;> by_cases h2 : b = e <;> by_cases h3 : c = f <;> simp [h1, h2, h3]
set_option maxHeartbeats 400000 in
theorem eqPfx (p q : Pf) (w : World) : (binOp .eql 37 (.agg #[.bool p.s, .int .i64 p.H.toInt, .int .i64 p.L.toInt, .int .i64 p.b]) (.agg #[.bool q.s, .int .i64 q.H.toInt, .int .i64 q.L.toInt, .int .i64 q.b])).run Tryz.prog w = .ok (.bool (peqB p q)) w := by
  have u3 := Tryz.underlying3
  have a3 := Tryz.isAgg3
  have z3 := Tryz.sizeOf3
  have u4 := Tryz.underlying35
  have a4 := Tryz.isAgg35
  have z4 := Tryz.sizeOf35
  have hS : Tryz.prog.underlying 37 = some (.struct (Tryz.prog.fieldsOf 37)) := by kernel_rfl
  have hp : Tryz.prog.stoodInHeld 37 = false := by kernel_rfl
  have hE : (Op.equalIn 10000 37 (.agg #[.bool p.s, .int .i64 p.H.toInt, .int .i64 p.L.toInt, .int .i64 p.b]) (.agg #[.bool q.s, .int .i64 q.H.toInt, .int .i64 q.L.toInt, .int .i64 q.b])).run Tryz.prog w = .ok (peqB p q) w := by
    have h9 := eqSt9 p.s p.H.toInt p.L.toInt q.s q.H.toInt q.L.toInt
    rw [show (10000 : Nat) = 9999 + 1 from rfl, run_equalIn_agg w 9999 37 _ _ hS hp]
    simp only [Program.fieldsOf, Tryz.underlying37]
    go_simp
    unfold peqB
    by_cases h1 : p.s = q.s <;> by_cases h2 : p.H.toInt = q.H.toInt <;> by_cases h3 : p.L.toInt = q.L.toInt <;> by_cases h4 : p.b = q.b <;> simp [h1, h2, h3, h4]
  simp only [binOp]
  simp [Op.equal, Op.maxDepth, hE]
theorem peq_iff {p q : Pf} : peqB p q = true ↔ p = q := by
  unfold peqB
  rw [Bool.and_eq_true, Bool.and_eq_true, Bool.and_eq_true, beq_iff_eq, beq_iff_eq, beq_iff_eq, beq_iff_eq]
  constructor
  · rintro ⟨⟨a, b, c⟩, d⟩
    obtain ⟨s, H, L, n⟩ := p
    obtain ⟨s', H', L', n'⟩ := q
    have e1 := BitVec.eq_of_toInt_eq b
    have e2 := BitVec.eq_of_toInt_eq c
    simp only at a d e1 e2
    subst a d e1 e2
    rfl
  · rintro rfl; exact ⟨⟨rfl, rfl, rfl⟩, rfl⟩

end Go.Proofs.YtmbmekcppmbokaaGreat

/-
  The program's Free.
-/
namespace Go.Proofs.YtmbmekcppmbokaaGreat
open Go.RowKit

theorem frz4 (w : World) (t : TypeId) (p : Pf) (o : Nat) : (w.alloc (.cells #[.bool p.s, .int .i64 p.H.toInt, .int .i64 p.L.toInt, .int .i64 p.b] t)).frozen? ⟨w.heap.size, o, none⟩ = false := by simp [go_sem]
theorem OwnG.set2 {α : Type} {K : Kd α} {t : TypeId} {w : World} {B x : Nat} {v u u' : Value} {ps : List α} (h : OwnG K t w B v ps) (hx : x < B) : OwnG K t ((w.setCell ⟨x, 0, none⟩ u).setCell ⟨x, 1, none⟩ u') B v ps := by
  have o1 := OwnG.grown h (grown_cellG w x 0 u) (fun k hk e => by have := (OwnG.lt h k hk).1; simp at e; omega)
  exact OwnG.grown o1 (grown_cellG _ x 1 u') (fun k hk e => by have := (OwnG.lt h k hk).1; simp at e; omega)
theorem OwnG.set1 {α : Type} {K : Kd α} {t : TypeId} {w : World} {B x : Nat} {v u : Value} {ps : List α} (h : OwnG K t w B v ps) (hx : x < B) : OwnG K t (w.setCell ⟨x, 0, none⟩ u) B v ps :=
  OwnG.grown h (grown_cellG w x 0 u) (fun k hk e => by have := (OwnG.lt h k hk).1; simp at e; omega)
theorem below_set2 {w0 w : World} {B0 x : Nat} {u u' : Value} (h : Below B0 w0 w) (hx : B0 ≤ x) : Below B0 w0 ((w.setCell ⟨x, 0, none⟩ u).setCell ⟨x, 1, none⟩ u') := (h.setCell hx _).setCell hx _
theorem below_set1 {w0 w : World} {B0 x : Nat} {u : Value} (h : Below B0 w0 w) (hx : B0 ≤ x) : Below B0 w0 (w.setCell ⟨x, 0, none⟩ u) := h.setCell hx _
theorem cell_set2 {w : World} {x b o : Nat} {u u' v : Value} (h : w.cell? ⟨b, o, none⟩ = some v) (hb : b ≠ x) : ((w.setCell ⟨x, 0, none⟩ u).setCell ⟨x, 1, none⟩ u').cell? ⟨b, o, none⟩ = some v := by
  rw [World.cell?_of_block (heap_setCell_other _ ⟨x, 1, none⟩ b _ (by simpa using hb)), World.cell?_of_block (heap_setCell_other _ ⟨x, 0, none⟩ b _ (by simpa using hb))]; exact h
theorem cell_set1 {w : World} {x b o : Nat} {u v : Value} (h : w.cell? ⟨b, o, none⟩ = some v) (hb : b ≠ x) : (w.setCell ⟨x, 0, none⟩ u).cell? ⟨b, o, none⟩ = some v := by
  rw [World.cell?_of_block (heap_setCell_other _ ⟨x, 0, none⟩ b _ (by simpa using hb))]; exact h
theorem frz_set2 {w : World} {x b o : Nat} {u u' : Value} (h : w.frozen? ⟨b, o, none⟩ = false) (hb : b ≠ x) : ((w.setCell ⟨x, 0, none⟩ u).setCell ⟨x, 1, none⟩ u').frozen? ⟨b, o, none⟩ = false := by
  rw [World.frozen?_of_block (heap_setCell_other _ ⟨x, 1, none⟩ b _ (by simpa using hb)), World.frozen?_of_block (heap_setCell_other _ ⟨x, 0, none⟩ b _ (by simpa using hb))]; exact h
theorem frz_set1 {w : World} {x b o : Nat} {u : Value} (h : w.frozen? ⟨b, o, none⟩ = false) (hb : b ≠ x) : (w.setCell ⟨x, 0, none⟩ u).frozen? ⟨b, o, none⟩ = false := by
  rw [World.frozen?_of_block (heap_setCell_other _ ⟨x, 0, none⟩ b _ (by simpa using hb))]; exact h
theorem Sgrown {α : Type} {K : Kd α} {t : TypeId} {w : World} {B : Nat} {v : Value} {ps : List α} (h : OwnG K t w B v ps) : ∀ k, v.ownBlock = some k → B ≤ k := fun k hk => (OwnG.lt h k hk).1

set_option maxRecDepth 10000 in
set_option maxHeartbeats 4000000 in
theorem iFree_a (pt : Pf) (ow : ByteArray) (how : ow.size ≤ 9223372036854775807) (g h : Nat) (np nb : Nat) (ps : List Pl) (bs : List Bk) (w : World) (hnp : np = ps.length) (hnb : nb = bs.length) (hP : RowG KPl w (some ⟨g, 0, none⟩) ps) (hK : RowG KBk w (some ⟨h, 0, none⟩) bs) (hl : np ≤ 1048576) (hl' : nb ≤ 1048576) (hst : ∀ q ∈ bs, q.t.size ≤ 9223372036854775807) (hr : planB ps bs = false) :
    Calls Tryz.prog 15 #[.agg #[.slice (some ⟨g, 0, none⟩) np np, .slice (some ⟨h, 0, none⟩) nb nb], .agg #[.bool pt.s, .int .i64 pt.H.toInt, .int .i64 pt.L.toInt, .int .i64 pt.b], .string ow] w fun e w' => ∃ a c b d, e = .returned (.tuple #[.agg #[.slice a np c, .slice b nb d], .int .i64 (1)]) ∧ OwnG KPl 60 w' w.heap.size (.slice a np c) (ps) ∧ OwnG KBk 62 w' w.heap.size (.slice b nb d) (bs) ∧ (∀ k, (Value.slice a np c).ownBlock = some k → (Value.slice b nb d).ownBlock ≠ some k) ∧ Below w.heap.size w w' := by
  have HOw := hidP (fun W h' => ownPlan_any (some ⟨g, 0, none⟩) np np (some ⟨h, 0, none⟩) nb nb ps bs W hnp hnb (hP.later h') (hK.later h') hl hl')
  have HPO := hidP (fun W a c b d e1 e2 => iPlanOk_any a np c b nb d ps bs W hnp hnb e1 e2 (by omega) (by omega) hst)
  have HPk := hidP (iPrefixOk_any pt.s pt.H pt.L pt.b)
  change Hid (∀ w, Calls Tryz.prog 31 _ w fun e w' => e = .returned (.bool pt.pk) ∧ Below w.heap.size w w') at HPk
  have HOO := hidP (fun W => iOwnerOk_any ow W how)
  have HN := hidP (And.intro hnp hnb)
  clear hP hK hnp hnb hst how
  rw [hr] at HPO
  go_enter Tryz.func15, Tryz.ntmps15
  go_wp2_with fail
  have uF := frz2 w 34 (.slice (some ⟨g, 0, none⟩) np np) (.slice (some ⟨h, 0, none⟩) nb nb)
  obtain ⟨u0, u1⟩ := box2 (u := .slice (some ⟨g, 0, none⟩) np np) (v := .slice (some ⟨h, 0, none⟩) nb nb) w 34
  have uB := alloc_below w (.cells #[.slice (some ⟨g, 0, none⟩) np np, .slice (some ⟨h, 0, none⟩) nb nb] 34)
  have uL := alloc_lt w (.cells #[.slice (some ⟨g, 0, none⟩) np np, .slice (some ⟨h, 0, none⟩) nb nb] 34)
  have uS : (w.alloc (.cells #[.slice (some ⟨g, 0, none⟩) np np, .slice (some ⟨h, 0, none⟩) nb nb] 34)).heap.size = w.heap.size + 1 := by simp
  generalize w.alloc (.cells #[.slice (some ⟨g, 0, none⟩) np np, .slice (some ⟨h, 0, none⟩) nb nb] 34) = W1 at *
  obtain ⟨y0, y1, y2, y3⟩ := box4 (p := pt) W1 37
  have yB := alloc_below W1 (.cells #[.bool pt.s, .int .i64 pt.H.toInt, .int .i64 pt.L.toInt, .int .i64 pt.b] 37)
  have yL := alloc_lt W1 (.cells #[.bool pt.s, .int .i64 pt.H.toInt, .int .i64 pt.L.toInt, .int .i64 pt.b] 37)
  have yS : (W1.alloc (.cells #[.bool pt.s, .int .i64 pt.H.toInt, .int .i64 pt.L.toInt, .int .i64 pt.b] 37)).heap.size = W1.heap.size + 1 := by simp
  generalize W1.alloc (.cells #[.bool pt.s, .int .i64 pt.H.toInt, .int .i64 pt.L.toInt, .int .i64 pt.b] 37) = W2 at *
  rw [uS] at y0 y1 y2 y3 yL yS
  have kF := frz2 W2 34 (.slice none 0 0) (.slice none 0 0)
  obtain ⟨k0, k1⟩ := box2 (u := .slice none 0 0) (v := .slice none 0 0) W2 34
  have kB := alloc_below W2 (.cells #[.slice none 0 0, .slice none 0 0] 34)
  have kL := alloc_lt W2 (.cells #[.slice none 0 0, .slice none 0 0] 34)
  have kS : (W2.alloc (.cells #[.slice none 0 0, .slice none 0 0] 34)).heap.size = W2.heap.size + 1 := by simp
  generalize W2.alloc (.cells #[.slice none 0 0, .slice none 0 0] 34) = W3 at *
  rw [yS] at k0 k1 kL kS
  rw [yS] at kF
  have l0 : w.heap.size < W2.heap.size := by omega
  have l1 : w.heap.size + 1 < W2.heap.size := by omega
  have U0 := (kB.cell l0).trans ((yB.cell uL).trans u0)
  have U1 := (kB.cell l0).trans ((yB.cell uL).trans u1)
  have UF : ∀ o, W3.frozen? ⟨w.heap.size, o, none⟩ = false := fun o => (kB.frozen l0).trans ((yB.frozen uL).trans (uF o))
  have Y0 := (kB.cell l1).trans y0
  have Y1 := (kB.cell l1).trans y1
  have Y2 := (kB.cell l1).trans y2
  have Y3 := (kB.cell l1).trans y3
  have acc0 := hidP ((uB.trans (yB.mono uB.size)).trans (kB.mono (Nat.le_trans uB.size yB.size)))
  have UL : w.heap.size < W3.heap.size := by omega
  have YL : w.heap.size + 1 < W3.heap.size := by omega
  have kL3 : w.heap.size + 1 + 1 < W3.heap.size := by omega
  have UL9 := UL
  have kL9 := kL3
  clear uB yB kB uS yS kS u0 u1 y0 y1 y2 y3 uL yL kL uF l0 l1
  refine (HOw.out _ acc0.out).mono ?_
  rintro e w4 ⟨a, c, b, d, rfl, op, ob, hne, hb4⟩
  have pb0_w4 := (hb4.cell UL).trans U0
  have pb1_w4 := (hb4.cell UL).trans U1
  have pbF_w4 : ∀ o, w4.frozen? ⟨w.heap.size, o, none⟩ = false := fun o => (hb4.frozen UL).trans (UF o)
  have pbL_w4 : w.heap.size < w4.heap.size := Nat.lt_of_lt_of_le UL hb4.size
  have at0_w4 := (hb4.cell YL).trans Y0
  have at1_w4 := (hb4.cell YL).trans Y1
  have at2_w4 := (hb4.cell YL).trans Y2
  have at3_w4 := (hb4.cell YL).trans Y3
  have atL_w4 : w.heap.size + 1 < w4.heap.size := Nat.lt_of_lt_of_le YL hb4.size
  have rs0_w4 := (hb4.cell kL3).trans k0
  have rs1_w4 := (hb4.cell kL3).trans k1
  have rsF_w4 : ∀ o, w4.frozen? ⟨w.heap.size + 1 + 1, o, none⟩ = false := fun o => (hb4.frozen kL3).trans (kF o)
  have rsL_w4 : w.heap.size + 1 + 1 < w4.heap.size := Nat.lt_of_lt_of_le kL3 hb4.size
  have acc_w4 := hidP (acc0.out.trans (hb4.mono acc0.out.size))
  have w43c := hb4.size
  have oP_w4 := hidP op
  have oB_w4 := hidP ob
  have HNE := hidP hne
  clear UF U0 U1 UL Y0 Y1 Y2 Y3 YL kF k0 k1 kL3 acc0 hb4 op ob hne
  go_wp2_with fail
  have p0 : ((w4.setCell ⟨w.heap.size, 0, none⟩ (.slice a np c)).setCell ⟨w.heap.size, 1, none⟩ (.slice b nb d)).cell? ⟨w.heap.size, 0, none⟩ = some (.slice a np c) := by simp [go_sem, pb0_w4]
  have p1 : ((w4.setCell ⟨w.heap.size, 0, none⟩ (.slice a np c)).setCell ⟨w.heap.size, 1, none⟩ (.slice b nb d)).cell? ⟨w.heap.size, 1, none⟩ = some (.slice b nb d) := by simp [go_sem, pb1_w4]
  have pF : ∀ o, ((w4.setCell ⟨w.heap.size, 0, none⟩ (.slice a np c)).setCell ⟨w.heap.size, 1, none⟩ (.slice b nb d)).frozen? ⟨w.heap.size, o, none⟩ = false := fun o => by simp [go_sem, pbF_w4 o]
  have q0 : ((w4.setCell ⟨w.heap.size, 0, none⟩ (.slice a np c)).setCell ⟨w.heap.size, 1, none⟩ (.slice b nb d)).cell? ⟨w.heap.size + 1, 0, none⟩ = _ := cell_set2 at0_w4 (by omega)
  have q1 : ((w4.setCell ⟨w.heap.size, 0, none⟩ (.slice a np c)).setCell ⟨w.heap.size, 1, none⟩ (.slice b nb d)).cell? ⟨w.heap.size + 1, 1, none⟩ = _ := cell_set2 at1_w4 (by omega)
  have q2 : ((w4.setCell ⟨w.heap.size, 0, none⟩ (.slice a np c)).setCell ⟨w.heap.size, 1, none⟩ (.slice b nb d)).cell? ⟨w.heap.size + 1, 2, none⟩ = _ := cell_set2 at2_w4 (by omega)
  have q3 : ((w4.setCell ⟨w.heap.size, 0, none⟩ (.slice a np c)).setCell ⟨w.heap.size, 1, none⟩ (.slice b nb d)).cell? ⟨w.heap.size + 1, 3, none⟩ = _ := cell_set2 at3_w4 (by omega)
  have r0 : ((w4.setCell ⟨w.heap.size, 0, none⟩ (.slice a np c)).setCell ⟨w.heap.size, 1, none⟩ (.slice b nb d)).cell? ⟨w.heap.size + 1 + 1, 0, none⟩ = _ := cell_set2 rs0_w4 (by omega)
  have r1 : ((w4.setCell ⟨w.heap.size, 0, none⟩ (.slice a np c)).setCell ⟨w.heap.size, 1, none⟩ (.slice b nb d)).cell? ⟨w.heap.size + 1 + 1, 1, none⟩ = _ := cell_set2 rs1_w4 (by omega)
  have rF : ∀ o, ((w4.setCell ⟨w.heap.size, 0, none⟩ (.slice a np c)).setCell ⟨w.heap.size, 1, none⟩ (.slice b nb d)).frozen? ⟨w.heap.size + 1 + 1, o, none⟩ = false := fun o => frz_set2 (rsF_w4 o) (by omega)
  have oP5 : Hid (OwnG KPl 60 ((w4.setCell ⟨w.heap.size, 0, none⟩ (.slice a np c)).setCell ⟨w.heap.size, 1, none⟩ (.slice b nb d)) W3.heap.size (.slice a np c) ps) := hidP (OwnG.set2 oP_w4.out UL9)
  have oB5 : Hid (OwnG KBk 62 ((w4.setCell ⟨w.heap.size, 0, none⟩ (.slice a np c)).setCell ⟨w.heap.size, 1, none⟩ (.slice b nb d)) W3.heap.size (.slice b nb d) bs) := hidP (OwnG.set2 oB_w4.out UL9)
  have acc5 : Hid (Below w.heap.size w ((w4.setCell ⟨w.heap.size, 0, none⟩ (.slice a np c)).setCell ⟨w.heap.size, 1, none⟩ (.slice b nb d))) := hidP (below_set2 acc_w4.out (Nat.le_refl _))
  have sL5 : ((w4.setCell ⟨w.heap.size, 0, none⟩ (.slice a np c)).setCell ⟨w.heap.size, 1, none⟩ (.slice b nb d)).heap.size = w4.heap.size := by simp
  generalize ((w4.setCell ⟨w.heap.size, 0, none⟩ (.slice a np c)).setCell ⟨w.heap.size, 1, none⟩ (.slice b nb d)) = W5 at *
  have pL5 : w.heap.size < W5.heap.size := by have := pbL_w4; omega
  have qL5 : w.heap.size + 1 < W5.heap.size := by have := atL_w4; omega
  have rL5 : w.heap.size + 1 + 1 < W5.heap.size := by have := rsL_w4; omega
  have w53 : W3.heap.size ≤ W5.heap.size := by omega
  clear pb0_w4 pb1_w4 pbL_w4 at0_w4 at1_w4 at2_w4 at3_w4 atL_w4 rs0_w4 rs1_w4 rsL_w4 pbF_w4 rsF_w4 oP_w4 oB_w4 acc_w4 sL5 w43c
  refine (HPO.out _ a c b d oP5.out.row oB5.out.row).mono ?_
  rintro e w6 ⟨rfl, hb6⟩
  have pb0_w6 := (hb6.cell pL5).trans p0
  have pb1_w6 := (hb6.cell pL5).trans p1
  have pbF_w6 : ∀ o, w6.frozen? ⟨w.heap.size, o, none⟩ = false := fun o => (hb6.frozen pL5).trans (pF o)
  have pbL_w6 : w.heap.size < w6.heap.size := Nat.lt_of_lt_of_le pL5 hb6.size
  have at0_w6 := (hb6.cell qL5).trans q0
  have at1_w6 := (hb6.cell qL5).trans q1
  have at2_w6 := (hb6.cell qL5).trans q2
  have at3_w6 := (hb6.cell qL5).trans q3
  have atL_w6 : w.heap.size + 1 < w6.heap.size := Nat.lt_of_lt_of_le qL5 hb6.size
  have rs0_w6 := (hb6.cell rL5).trans r0
  have rs1_w6 := (hb6.cell rL5).trans r1
  have rsF_w6 : ∀ o, w6.frozen? ⟨w.heap.size + 1 + 1, o, none⟩ = false := fun o => (hb6.frozen rL5).trans (rF o)
  have rsL_w6 : w.heap.size + 1 + 1 < w6.heap.size := Nat.lt_of_lt_of_le rL5 hb6.size
  have oP_w6 := hidP (OwnG.later oP5.out hb6)
  have oB_w6 := hidP (OwnG.later oB5.out hb6)
  have acc_w6 := hidP (acc5.out.trans (hb6.mono acc5.out.size))
  have w63 := Nat.le_trans w53 hb6.size
  clear pF p0 p1 pL5 q0 q1 q2 q3 qL5 rF r0 r1 rL5 oP5 oB5 acc5 hb6 w53
  go_wp2_with fail
  refine bodyPost_ret (v := .tuple #[.agg #[.slice a np c, .slice b nb d], .int .i64 1]) (by simp [results, Tryz.results15, go_sem, rs0_w6, rs1_w6]) rfl ⟨_, _, _, _, rfl, (OwnG.set2 oP_w6.out kL9).mono (Nat.le_of_lt UL9), (OwnG.set2 oB_w6.out kL9).mono (Nat.le_of_lt UL9), HNE.out, below_set2 acc_w6.out (by omega)⟩

set_option maxRecDepth 10000 in
set_option maxHeartbeats 4000000 in
theorem iFree_b (pt : Pf) (ow : ByteArray) (how : ow.size ≤ 9223372036854775807) (g h : Nat) (np nb : Nat) (ps : List Pl) (bs : List Bk) (w : World) (hnp : np = ps.length) (hnb : nb = bs.length) (hP : RowG KPl w (some ⟨g, 0, none⟩) ps) (hK : RowG KBk w (some ⟨h, 0, none⟩) bs) (hl : np ≤ 1048576) (hl' : nb ≤ 1048576) (hst : ∀ q ∈ bs, q.t.size ≤ 9223372036854775807) (hr : planB ps bs = true) (hk : pt.pk = false) :
    Calls Tryz.prog 15 #[.agg #[.slice (some ⟨g, 0, none⟩) np np, .slice (some ⟨h, 0, none⟩) nb nb], .agg #[.bool pt.s, .int .i64 pt.H.toInt, .int .i64 pt.L.toInt, .int .i64 pt.b], .string ow] w fun e w' => ∃ a c b d, e = .returned (.tuple #[.agg #[.slice a np c, .slice b nb d], .int .i64 (1)]) ∧ OwnG KPl 60 w' w.heap.size (.slice a np c) (ps) ∧ OwnG KBk 62 w' w.heap.size (.slice b nb d) (bs) ∧ (∀ k, (Value.slice a np c).ownBlock = some k → (Value.slice b nb d).ownBlock ≠ some k) ∧ Below w.heap.size w w' := by
  have HOw := hidP (fun W h' => ownPlan_any (some ⟨g, 0, none⟩) np np (some ⟨h, 0, none⟩) nb nb ps bs W hnp hnb (hP.later h') (hK.later h') hl hl')
  have HPO := hidP (fun W a c b d e1 e2 => iPlanOk_any a np c b nb d ps bs W hnp hnb e1 e2 (by omega) (by omega) hst)
  have HPk := hidP (iPrefixOk_any pt.s pt.H pt.L pt.b)
  change Hid (∀ w, Calls Tryz.prog 31 _ w fun e w' => e = .returned (.bool pt.pk) ∧ Below w.heap.size w w') at HPk
  have HOO := hidP (fun W => iOwnerOk_any ow W how)
  have HN := hidP (And.intro hnp hnb)
  clear hP hK hnp hnb hst how
  rw [hr] at HPO
  rw [hk] at HPk
  go_enter Tryz.func15, Tryz.ntmps15
  go_wp2_with fail
  have uF := frz2 w 34 (.slice (some ⟨g, 0, none⟩) np np) (.slice (some ⟨h, 0, none⟩) nb nb)
  obtain ⟨u0, u1⟩ := box2 (u := .slice (some ⟨g, 0, none⟩) np np) (v := .slice (some ⟨h, 0, none⟩) nb nb) w 34
  have uB := alloc_below w (.cells #[.slice (some ⟨g, 0, none⟩) np np, .slice (some ⟨h, 0, none⟩) nb nb] 34)
  have uL := alloc_lt w (.cells #[.slice (some ⟨g, 0, none⟩) np np, .slice (some ⟨h, 0, none⟩) nb nb] 34)
  have uS : (w.alloc (.cells #[.slice (some ⟨g, 0, none⟩) np np, .slice (some ⟨h, 0, none⟩) nb nb] 34)).heap.size = w.heap.size + 1 := by simp
  generalize w.alloc (.cells #[.slice (some ⟨g, 0, none⟩) np np, .slice (some ⟨h, 0, none⟩) nb nb] 34) = W1 at *
  obtain ⟨y0, y1, y2, y3⟩ := box4 (p := pt) W1 37
  have yB := alloc_below W1 (.cells #[.bool pt.s, .int .i64 pt.H.toInt, .int .i64 pt.L.toInt, .int .i64 pt.b] 37)
  have yL := alloc_lt W1 (.cells #[.bool pt.s, .int .i64 pt.H.toInt, .int .i64 pt.L.toInt, .int .i64 pt.b] 37)
  have yS : (W1.alloc (.cells #[.bool pt.s, .int .i64 pt.H.toInt, .int .i64 pt.L.toInt, .int .i64 pt.b] 37)).heap.size = W1.heap.size + 1 := by simp
  generalize W1.alloc (.cells #[.bool pt.s, .int .i64 pt.H.toInt, .int .i64 pt.L.toInt, .int .i64 pt.b] 37) = W2 at *
  rw [uS] at y0 y1 y2 y3 yL yS
  have kF := frz2 W2 34 (.slice none 0 0) (.slice none 0 0)
  obtain ⟨k0, k1⟩ := box2 (u := .slice none 0 0) (v := .slice none 0 0) W2 34
  have kB := alloc_below W2 (.cells #[.slice none 0 0, .slice none 0 0] 34)
  have kL := alloc_lt W2 (.cells #[.slice none 0 0, .slice none 0 0] 34)
  have kS : (W2.alloc (.cells #[.slice none 0 0, .slice none 0 0] 34)).heap.size = W2.heap.size + 1 := by simp
  generalize W2.alloc (.cells #[.slice none 0 0, .slice none 0 0] 34) = W3 at *
  rw [yS] at k0 k1 kL kS
  rw [yS] at kF
  have l0 : w.heap.size < W2.heap.size := by omega
  have l1 : w.heap.size + 1 < W2.heap.size := by omega
  have U0 := (kB.cell l0).trans ((yB.cell uL).trans u0)
  have U1 := (kB.cell l0).trans ((yB.cell uL).trans u1)
  have UF : ∀ o, W3.frozen? ⟨w.heap.size, o, none⟩ = false := fun o => (kB.frozen l0).trans ((yB.frozen uL).trans (uF o))
  have Y0 := (kB.cell l1).trans y0
  have Y1 := (kB.cell l1).trans y1
  have Y2 := (kB.cell l1).trans y2
  have Y3 := (kB.cell l1).trans y3
  have acc0 := hidP ((uB.trans (yB.mono uB.size)).trans (kB.mono (Nat.le_trans uB.size yB.size)))
  have UL : w.heap.size < W3.heap.size := by omega
  have YL : w.heap.size + 1 < W3.heap.size := by omega
  have kL3 : w.heap.size + 1 + 1 < W3.heap.size := by omega
  have UL9 := UL
  have kL9 := kL3
  clear uB yB kB uS yS kS u0 u1 y0 y1 y2 y3 uL yL kL uF l0 l1
  refine (HOw.out _ acc0.out).mono ?_
  rintro e w4 ⟨a, c, b, d, rfl, op, ob, hne, hb4⟩
  have pb0_w4 := (hb4.cell UL).trans U0
  have pb1_w4 := (hb4.cell UL).trans U1
  have pbF_w4 : ∀ o, w4.frozen? ⟨w.heap.size, o, none⟩ = false := fun o => (hb4.frozen UL).trans (UF o)
  have pbL_w4 : w.heap.size < w4.heap.size := Nat.lt_of_lt_of_le UL hb4.size
  have at0_w4 := (hb4.cell YL).trans Y0
  have at1_w4 := (hb4.cell YL).trans Y1
  have at2_w4 := (hb4.cell YL).trans Y2
  have at3_w4 := (hb4.cell YL).trans Y3
  have atL_w4 : w.heap.size + 1 < w4.heap.size := Nat.lt_of_lt_of_le YL hb4.size
  have rs0_w4 := (hb4.cell kL3).trans k0
  have rs1_w4 := (hb4.cell kL3).trans k1
  have rsF_w4 : ∀ o, w4.frozen? ⟨w.heap.size + 1 + 1, o, none⟩ = false := fun o => (hb4.frozen kL3).trans (kF o)
  have rsL_w4 : w.heap.size + 1 + 1 < w4.heap.size := Nat.lt_of_lt_of_le kL3 hb4.size
  have acc_w4 := hidP (acc0.out.trans (hb4.mono acc0.out.size))
  have w43c := hb4.size
  have oP_w4 := hidP op
  have oB_w4 := hidP ob
  have HNE := hidP hne
  clear UF U0 U1 UL Y0 Y1 Y2 Y3 YL kF k0 k1 kL3 acc0 hb4 op ob hne
  go_wp2_with fail
  have p0 : ((w4.setCell ⟨w.heap.size, 0, none⟩ (.slice a np c)).setCell ⟨w.heap.size, 1, none⟩ (.slice b nb d)).cell? ⟨w.heap.size, 0, none⟩ = some (.slice a np c) := by simp [go_sem, pb0_w4]
  have p1 : ((w4.setCell ⟨w.heap.size, 0, none⟩ (.slice a np c)).setCell ⟨w.heap.size, 1, none⟩ (.slice b nb d)).cell? ⟨w.heap.size, 1, none⟩ = some (.slice b nb d) := by simp [go_sem, pb1_w4]
  have pF : ∀ o, ((w4.setCell ⟨w.heap.size, 0, none⟩ (.slice a np c)).setCell ⟨w.heap.size, 1, none⟩ (.slice b nb d)).frozen? ⟨w.heap.size, o, none⟩ = false := fun o => by simp [go_sem, pbF_w4 o]
  have q0 : ((w4.setCell ⟨w.heap.size, 0, none⟩ (.slice a np c)).setCell ⟨w.heap.size, 1, none⟩ (.slice b nb d)).cell? ⟨w.heap.size + 1, 0, none⟩ = _ := cell_set2 at0_w4 (by omega)
  have q1 : ((w4.setCell ⟨w.heap.size, 0, none⟩ (.slice a np c)).setCell ⟨w.heap.size, 1, none⟩ (.slice b nb d)).cell? ⟨w.heap.size + 1, 1, none⟩ = _ := cell_set2 at1_w4 (by omega)
  have q2 : ((w4.setCell ⟨w.heap.size, 0, none⟩ (.slice a np c)).setCell ⟨w.heap.size, 1, none⟩ (.slice b nb d)).cell? ⟨w.heap.size + 1, 2, none⟩ = _ := cell_set2 at2_w4 (by omega)
  have q3 : ((w4.setCell ⟨w.heap.size, 0, none⟩ (.slice a np c)).setCell ⟨w.heap.size, 1, none⟩ (.slice b nb d)).cell? ⟨w.heap.size + 1, 3, none⟩ = _ := cell_set2 at3_w4 (by omega)
  have r0 : ((w4.setCell ⟨w.heap.size, 0, none⟩ (.slice a np c)).setCell ⟨w.heap.size, 1, none⟩ (.slice b nb d)).cell? ⟨w.heap.size + 1 + 1, 0, none⟩ = _ := cell_set2 rs0_w4 (by omega)
  have r1 : ((w4.setCell ⟨w.heap.size, 0, none⟩ (.slice a np c)).setCell ⟨w.heap.size, 1, none⟩ (.slice b nb d)).cell? ⟨w.heap.size + 1 + 1, 1, none⟩ = _ := cell_set2 rs1_w4 (by omega)
  have rF : ∀ o, ((w4.setCell ⟨w.heap.size, 0, none⟩ (.slice a np c)).setCell ⟨w.heap.size, 1, none⟩ (.slice b nb d)).frozen? ⟨w.heap.size + 1 + 1, o, none⟩ = false := fun o => frz_set2 (rsF_w4 o) (by omega)
  have oP5 : Hid (OwnG KPl 60 ((w4.setCell ⟨w.heap.size, 0, none⟩ (.slice a np c)).setCell ⟨w.heap.size, 1, none⟩ (.slice b nb d)) W3.heap.size (.slice a np c) ps) := hidP (OwnG.set2 oP_w4.out UL9)
  have oB5 : Hid (OwnG KBk 62 ((w4.setCell ⟨w.heap.size, 0, none⟩ (.slice a np c)).setCell ⟨w.heap.size, 1, none⟩ (.slice b nb d)) W3.heap.size (.slice b nb d) bs) := hidP (OwnG.set2 oB_w4.out UL9)
  have acc5 : Hid (Below w.heap.size w ((w4.setCell ⟨w.heap.size, 0, none⟩ (.slice a np c)).setCell ⟨w.heap.size, 1, none⟩ (.slice b nb d))) := hidP (below_set2 acc_w4.out (Nat.le_refl _))
  have sL5 : ((w4.setCell ⟨w.heap.size, 0, none⟩ (.slice a np c)).setCell ⟨w.heap.size, 1, none⟩ (.slice b nb d)).heap.size = w4.heap.size := by simp
  generalize ((w4.setCell ⟨w.heap.size, 0, none⟩ (.slice a np c)).setCell ⟨w.heap.size, 1, none⟩ (.slice b nb d)) = W5 at *
  have pL5 : w.heap.size < W5.heap.size := by have := pbL_w4; omega
  have qL5 : w.heap.size + 1 < W5.heap.size := by have := atL_w4; omega
  have rL5 : w.heap.size + 1 + 1 < W5.heap.size := by have := rsL_w4; omega
  have w53 : W3.heap.size ≤ W5.heap.size := by omega
  clear pb0_w4 pb1_w4 pbL_w4 at0_w4 at1_w4 at2_w4 at3_w4 atL_w4 rs0_w4 rs1_w4 rsL_w4 pbF_w4 rsF_w4 oP_w4 oB_w4 acc_w4 sL5 w43c
  refine (HPO.out _ a c b d oP5.out.row oB5.out.row).mono ?_
  rintro e w6 ⟨rfl, hb6⟩
  have pb0_w6 := (hb6.cell pL5).trans p0
  have pb1_w6 := (hb6.cell pL5).trans p1
  have pbF_w6 : ∀ o, w6.frozen? ⟨w.heap.size, o, none⟩ = false := fun o => (hb6.frozen pL5).trans (pF o)
  have pbL_w6 : w.heap.size < w6.heap.size := Nat.lt_of_lt_of_le pL5 hb6.size
  have at0_w6 := (hb6.cell qL5).trans q0
  have at1_w6 := (hb6.cell qL5).trans q1
  have at2_w6 := (hb6.cell qL5).trans q2
  have at3_w6 := (hb6.cell qL5).trans q3
  have atL_w6 : w.heap.size + 1 < w6.heap.size := Nat.lt_of_lt_of_le qL5 hb6.size
  have rs0_w6 := (hb6.cell rL5).trans r0
  have rs1_w6 := (hb6.cell rL5).trans r1
  have rsF_w6 : ∀ o, w6.frozen? ⟨w.heap.size + 1 + 1, o, none⟩ = false := fun o => (hb6.frozen rL5).trans (rF o)
  have rsL_w6 : w.heap.size + 1 + 1 < w6.heap.size := Nat.lt_of_lt_of_le rL5 hb6.size
  have oP_w6 := hidP (OwnG.later oP5.out hb6)
  have oB_w6 := hidP (OwnG.later oB5.out hb6)
  have acc_w6 := hidP (acc5.out.trans (hb6.mono acc5.out.size))
  have w63 := Nat.le_trans w53 hb6.size
  clear pF p0 p1 pL5 q0 q1 q2 q3 qL5 rF r0 r1 rL5 oP5 oB5 acc5 hb6 w53
  go_wp2_with fail
  refine (HPk.out _).mono ?_
  rintro e w7 ⟨rfl, hb7⟩
  have pb0_w7 := (hb7.cell pbL_w6).trans pb0_w6
  have pb1_w7 := (hb7.cell pbL_w6).trans pb1_w6
  have pbF_w7 : ∀ o, w7.frozen? ⟨w.heap.size, o, none⟩ = false := fun o => (hb7.frozen pbL_w6).trans (pbF_w6 o)
  have pbL_w7 : w.heap.size < w7.heap.size := Nat.lt_of_lt_of_le pbL_w6 hb7.size
  have at0_w7 := (hb7.cell atL_w6).trans at0_w6
  have at1_w7 := (hb7.cell atL_w6).trans at1_w6
  have at2_w7 := (hb7.cell atL_w6).trans at2_w6
  have at3_w7 := (hb7.cell atL_w6).trans at3_w6
  have atL_w7 : w.heap.size + 1 < w7.heap.size := Nat.lt_of_lt_of_le atL_w6 hb7.size
  have rs0_w7 := (hb7.cell rsL_w6).trans rs0_w6
  have rs1_w7 := (hb7.cell rsL_w6).trans rs1_w6
  have rsF_w7 : ∀ o, w7.frozen? ⟨w.heap.size + 1 + 1, o, none⟩ = false := fun o => (hb7.frozen rsL_w6).trans (rsF_w6 o)
  have rsL_w7 : w.heap.size + 1 + 1 < w7.heap.size := Nat.lt_of_lt_of_le rsL_w6 hb7.size
  have oP_w7 := hidP (OwnG.later oP_w6.out hb7)
  have oB_w7 := hidP (OwnG.later oB_w6.out hb7)
  have acc_w7 := hidP (acc_w6.out.trans (hb7.mono acc_w6.out.size))
  have w73 := Nat.le_trans w63 hb7.size
  clear pbF_w6 pb0_w6 pb1_w6 pbL_w6 at0_w6 at1_w6 at2_w6 at3_w6 atL_w6 rsF_w6 rs0_w6 rs1_w6 rsL_w6 oP_w6 oB_w6 acc_w6 hb7 w63
  go_wp2_with fail
  refine bodyPost_ret (v := .tuple #[.agg #[.slice a np c, .slice b nb d], .int .i64 1]) (by simp [results, Tryz.results15, go_sem, rs0_w7, rs1_w7]) rfl ⟨_, _, _, _, rfl, (OwnG.set2 oP_w7.out kL9).mono (Nat.le_of_lt UL9), (OwnG.set2 oB_w7.out kL9).mono (Nat.le_of_lt UL9), HNE.out, below_set2 acc_w7.out (by omega)⟩

set_option maxRecDepth 10000 in
set_option maxHeartbeats 4000000 in
theorem iFree_c (pt : Pf) (ow : ByteArray) (how : ow.size ≤ 9223372036854775807) (g h : Nat) (np nb : Nat) (ps : List Pl) (bs : List Bk) (w : World) (hnp : np = ps.length) (hnb : nb = bs.length) (hP : RowG KPl w (some ⟨g, 0, none⟩) ps) (hK : RowG KBk w (some ⟨h, 0, none⟩) bs) (hl : np ≤ 1048576) (hl' : nb ≤ 1048576) (hst : ∀ q ∈ bs, q.t.size ≤ 9223372036854775807) (hr : planB ps bs = true) (hk : pt.pk = true) (ho : ownB ow = false) :
    Calls Tryz.prog 15 #[.agg #[.slice (some ⟨g, 0, none⟩) np np, .slice (some ⟨h, 0, none⟩) nb nb], .agg #[.bool pt.s, .int .i64 pt.H.toInt, .int .i64 pt.L.toInt, .int .i64 pt.b], .string ow] w fun e w' => ∃ a c b d, e = .returned (.tuple #[.agg #[.slice a np c, .slice b nb d], .int .i64 (1)]) ∧ OwnG KPl 60 w' w.heap.size (.slice a np c) (ps) ∧ OwnG KBk 62 w' w.heap.size (.slice b nb d) (bs) ∧ (∀ k, (Value.slice a np c).ownBlock = some k → (Value.slice b nb d).ownBlock ≠ some k) ∧ Below w.heap.size w w' := by
  have HOw := hidP (fun W h' => ownPlan_any (some ⟨g, 0, none⟩) np np (some ⟨h, 0, none⟩) nb nb ps bs W hnp hnb (hP.later h') (hK.later h') hl hl')
  have HPO := hidP (fun W a c b d e1 e2 => iPlanOk_any a np c b nb d ps bs W hnp hnb e1 e2 (by omega) (by omega) hst)
  have HPk := hidP (iPrefixOk_any pt.s pt.H pt.L pt.b)
  change Hid (∀ w, Calls Tryz.prog 31 _ w fun e w' => e = .returned (.bool pt.pk) ∧ Below w.heap.size w w') at HPk
  have HOO := hidP (fun W => iOwnerOk_any ow W how)
  have HN := hidP (And.intro hnp hnb)
  clear hP hK hnp hnb hst how
  rw [hr] at HPO
  rw [hk] at HPk
  rw [ho] at HOO
  go_enter Tryz.func15, Tryz.ntmps15
  go_wp2_with fail
  have uF := frz2 w 34 (.slice (some ⟨g, 0, none⟩) np np) (.slice (some ⟨h, 0, none⟩) nb nb)
  obtain ⟨u0, u1⟩ := box2 (u := .slice (some ⟨g, 0, none⟩) np np) (v := .slice (some ⟨h, 0, none⟩) nb nb) w 34
  have uB := alloc_below w (.cells #[.slice (some ⟨g, 0, none⟩) np np, .slice (some ⟨h, 0, none⟩) nb nb] 34)
  have uL := alloc_lt w (.cells #[.slice (some ⟨g, 0, none⟩) np np, .slice (some ⟨h, 0, none⟩) nb nb] 34)
  have uS : (w.alloc (.cells #[.slice (some ⟨g, 0, none⟩) np np, .slice (some ⟨h, 0, none⟩) nb nb] 34)).heap.size = w.heap.size + 1 := by simp
  generalize w.alloc (.cells #[.slice (some ⟨g, 0, none⟩) np np, .slice (some ⟨h, 0, none⟩) nb nb] 34) = W1 at *
  obtain ⟨y0, y1, y2, y3⟩ := box4 (p := pt) W1 37
  have yB := alloc_below W1 (.cells #[.bool pt.s, .int .i64 pt.H.toInt, .int .i64 pt.L.toInt, .int .i64 pt.b] 37)
  have yL := alloc_lt W1 (.cells #[.bool pt.s, .int .i64 pt.H.toInt, .int .i64 pt.L.toInt, .int .i64 pt.b] 37)
  have yS : (W1.alloc (.cells #[.bool pt.s, .int .i64 pt.H.toInt, .int .i64 pt.L.toInt, .int .i64 pt.b] 37)).heap.size = W1.heap.size + 1 := by simp
  generalize W1.alloc (.cells #[.bool pt.s, .int .i64 pt.H.toInt, .int .i64 pt.L.toInt, .int .i64 pt.b] 37) = W2 at *
  rw [uS] at y0 y1 y2 y3 yL yS
  have kF := frz2 W2 34 (.slice none 0 0) (.slice none 0 0)
  obtain ⟨k0, k1⟩ := box2 (u := .slice none 0 0) (v := .slice none 0 0) W2 34
  have kB := alloc_below W2 (.cells #[.slice none 0 0, .slice none 0 0] 34)
  have kL := alloc_lt W2 (.cells #[.slice none 0 0, .slice none 0 0] 34)
  have kS : (W2.alloc (.cells #[.slice none 0 0, .slice none 0 0] 34)).heap.size = W2.heap.size + 1 := by simp
  generalize W2.alloc (.cells #[.slice none 0 0, .slice none 0 0] 34) = W3 at *
  rw [yS] at k0 k1 kL kS
  rw [yS] at kF
  have l0 : w.heap.size < W2.heap.size := by omega
  have l1 : w.heap.size + 1 < W2.heap.size := by omega
  have U0 := (kB.cell l0).trans ((yB.cell uL).trans u0)
  have U1 := (kB.cell l0).trans ((yB.cell uL).trans u1)
  have UF : ∀ o, W3.frozen? ⟨w.heap.size, o, none⟩ = false := fun o => (kB.frozen l0).trans ((yB.frozen uL).trans (uF o))
  have Y0 := (kB.cell l1).trans y0
  have Y1 := (kB.cell l1).trans y1
  have Y2 := (kB.cell l1).trans y2
  have Y3 := (kB.cell l1).trans y3
  have acc0 := hidP ((uB.trans (yB.mono uB.size)).trans (kB.mono (Nat.le_trans uB.size yB.size)))
  have UL : w.heap.size < W3.heap.size := by omega
  have YL : w.heap.size + 1 < W3.heap.size := by omega
  have kL3 : w.heap.size + 1 + 1 < W3.heap.size := by omega
  have UL9 := UL
  have kL9 := kL3
  clear uB yB kB uS yS kS u0 u1 y0 y1 y2 y3 uL yL kL uF l0 l1
  refine (HOw.out _ acc0.out).mono ?_
  rintro e w4 ⟨a, c, b, d, rfl, op, ob, hne, hb4⟩
  have pb0_w4 := (hb4.cell UL).trans U0
  have pb1_w4 := (hb4.cell UL).trans U1
  have pbF_w4 : ∀ o, w4.frozen? ⟨w.heap.size, o, none⟩ = false := fun o => (hb4.frozen UL).trans (UF o)
  have pbL_w4 : w.heap.size < w4.heap.size := Nat.lt_of_lt_of_le UL hb4.size
  have at0_w4 := (hb4.cell YL).trans Y0
  have at1_w4 := (hb4.cell YL).trans Y1
  have at2_w4 := (hb4.cell YL).trans Y2
  have at3_w4 := (hb4.cell YL).trans Y3
  have atL_w4 : w.heap.size + 1 < w4.heap.size := Nat.lt_of_lt_of_le YL hb4.size
  have rs0_w4 := (hb4.cell kL3).trans k0
  have rs1_w4 := (hb4.cell kL3).trans k1
  have rsF_w4 : ∀ o, w4.frozen? ⟨w.heap.size + 1 + 1, o, none⟩ = false := fun o => (hb4.frozen kL3).trans (kF o)
  have rsL_w4 : w.heap.size + 1 + 1 < w4.heap.size := Nat.lt_of_lt_of_le kL3 hb4.size
  have acc_w4 := hidP (acc0.out.trans (hb4.mono acc0.out.size))
  have w43c := hb4.size
  have oP_w4 := hidP op
  have oB_w4 := hidP ob
  have HNE := hidP hne
  clear UF U0 U1 UL Y0 Y1 Y2 Y3 YL kF k0 k1 kL3 acc0 hb4 op ob hne
  go_wp2_with fail
  have p0 : ((w4.setCell ⟨w.heap.size, 0, none⟩ (.slice a np c)).setCell ⟨w.heap.size, 1, none⟩ (.slice b nb d)).cell? ⟨w.heap.size, 0, none⟩ = some (.slice a np c) := by simp [go_sem, pb0_w4]
  have p1 : ((w4.setCell ⟨w.heap.size, 0, none⟩ (.slice a np c)).setCell ⟨w.heap.size, 1, none⟩ (.slice b nb d)).cell? ⟨w.heap.size, 1, none⟩ = some (.slice b nb d) := by simp [go_sem, pb1_w4]
  have pF : ∀ o, ((w4.setCell ⟨w.heap.size, 0, none⟩ (.slice a np c)).setCell ⟨w.heap.size, 1, none⟩ (.slice b nb d)).frozen? ⟨w.heap.size, o, none⟩ = false := fun o => by simp [go_sem, pbF_w4 o]
  have q0 : ((w4.setCell ⟨w.heap.size, 0, none⟩ (.slice a np c)).setCell ⟨w.heap.size, 1, none⟩ (.slice b nb d)).cell? ⟨w.heap.size + 1, 0, none⟩ = _ := cell_set2 at0_w4 (by omega)
  have q1 : ((w4.setCell ⟨w.heap.size, 0, none⟩ (.slice a np c)).setCell ⟨w.heap.size, 1, none⟩ (.slice b nb d)).cell? ⟨w.heap.size + 1, 1, none⟩ = _ := cell_set2 at1_w4 (by omega)
  have q2 : ((w4.setCell ⟨w.heap.size, 0, none⟩ (.slice a np c)).setCell ⟨w.heap.size, 1, none⟩ (.slice b nb d)).cell? ⟨w.heap.size + 1, 2, none⟩ = _ := cell_set2 at2_w4 (by omega)
  have q3 : ((w4.setCell ⟨w.heap.size, 0, none⟩ (.slice a np c)).setCell ⟨w.heap.size, 1, none⟩ (.slice b nb d)).cell? ⟨w.heap.size + 1, 3, none⟩ = _ := cell_set2 at3_w4 (by omega)
  have r0 : ((w4.setCell ⟨w.heap.size, 0, none⟩ (.slice a np c)).setCell ⟨w.heap.size, 1, none⟩ (.slice b nb d)).cell? ⟨w.heap.size + 1 + 1, 0, none⟩ = _ := cell_set2 rs0_w4 (by omega)
  have r1 : ((w4.setCell ⟨w.heap.size, 0, none⟩ (.slice a np c)).setCell ⟨w.heap.size, 1, none⟩ (.slice b nb d)).cell? ⟨w.heap.size + 1 + 1, 1, none⟩ = _ := cell_set2 rs1_w4 (by omega)
  have rF : ∀ o, ((w4.setCell ⟨w.heap.size, 0, none⟩ (.slice a np c)).setCell ⟨w.heap.size, 1, none⟩ (.slice b nb d)).frozen? ⟨w.heap.size + 1 + 1, o, none⟩ = false := fun o => frz_set2 (rsF_w4 o) (by omega)
  have oP5 : Hid (OwnG KPl 60 ((w4.setCell ⟨w.heap.size, 0, none⟩ (.slice a np c)).setCell ⟨w.heap.size, 1, none⟩ (.slice b nb d)) W3.heap.size (.slice a np c) ps) := hidP (OwnG.set2 oP_w4.out UL9)
  have oB5 : Hid (OwnG KBk 62 ((w4.setCell ⟨w.heap.size, 0, none⟩ (.slice a np c)).setCell ⟨w.heap.size, 1, none⟩ (.slice b nb d)) W3.heap.size (.slice b nb d) bs) := hidP (OwnG.set2 oB_w4.out UL9)
  have acc5 : Hid (Below w.heap.size w ((w4.setCell ⟨w.heap.size, 0, none⟩ (.slice a np c)).setCell ⟨w.heap.size, 1, none⟩ (.slice b nb d))) := hidP (below_set2 acc_w4.out (Nat.le_refl _))
  have sL5 : ((w4.setCell ⟨w.heap.size, 0, none⟩ (.slice a np c)).setCell ⟨w.heap.size, 1, none⟩ (.slice b nb d)).heap.size = w4.heap.size := by simp
  generalize ((w4.setCell ⟨w.heap.size, 0, none⟩ (.slice a np c)).setCell ⟨w.heap.size, 1, none⟩ (.slice b nb d)) = W5 at *
  have pL5 : w.heap.size < W5.heap.size := by have := pbL_w4; omega
  have qL5 : w.heap.size + 1 < W5.heap.size := by have := atL_w4; omega
  have rL5 : w.heap.size + 1 + 1 < W5.heap.size := by have := rsL_w4; omega
  have w53 : W3.heap.size ≤ W5.heap.size := by omega
  clear pb0_w4 pb1_w4 pbL_w4 at0_w4 at1_w4 at2_w4 at3_w4 atL_w4 rs0_w4 rs1_w4 rsL_w4 pbF_w4 rsF_w4 oP_w4 oB_w4 acc_w4 sL5 w43c
  refine (HPO.out _ a c b d oP5.out.row oB5.out.row).mono ?_
  rintro e w6 ⟨rfl, hb6⟩
  have pb0_w6 := (hb6.cell pL5).trans p0
  have pb1_w6 := (hb6.cell pL5).trans p1
  have pbF_w6 : ∀ o, w6.frozen? ⟨w.heap.size, o, none⟩ = false := fun o => (hb6.frozen pL5).trans (pF o)
  have pbL_w6 : w.heap.size < w6.heap.size := Nat.lt_of_lt_of_le pL5 hb6.size
  have at0_w6 := (hb6.cell qL5).trans q0
  have at1_w6 := (hb6.cell qL5).trans q1
  have at2_w6 := (hb6.cell qL5).trans q2
  have at3_w6 := (hb6.cell qL5).trans q3
  have atL_w6 : w.heap.size + 1 < w6.heap.size := Nat.lt_of_lt_of_le qL5 hb6.size
  have rs0_w6 := (hb6.cell rL5).trans r0
  have rs1_w6 := (hb6.cell rL5).trans r1
  have rsF_w6 : ∀ o, w6.frozen? ⟨w.heap.size + 1 + 1, o, none⟩ = false := fun o => (hb6.frozen rL5).trans (rF o)
  have rsL_w6 : w.heap.size + 1 + 1 < w6.heap.size := Nat.lt_of_lt_of_le rL5 hb6.size
  have oP_w6 := hidP (OwnG.later oP5.out hb6)
  have oB_w6 := hidP (OwnG.later oB5.out hb6)
  have acc_w6 := hidP (acc5.out.trans (hb6.mono acc5.out.size))
  have w63 := Nat.le_trans w53 hb6.size
  clear pF p0 p1 pL5 q0 q1 q2 q3 qL5 rF r0 r1 rL5 oP5 oB5 acc5 hb6 w53
  go_wp2_with fail
  refine (HPk.out _).mono ?_
  rintro e w7 ⟨rfl, hb7⟩
  have pb0_w7 := (hb7.cell pbL_w6).trans pb0_w6
  have pb1_w7 := (hb7.cell pbL_w6).trans pb1_w6
  have pbF_w7 : ∀ o, w7.frozen? ⟨w.heap.size, o, none⟩ = false := fun o => (hb7.frozen pbL_w6).trans (pbF_w6 o)
  have pbL_w7 : w.heap.size < w7.heap.size := Nat.lt_of_lt_of_le pbL_w6 hb7.size
  have at0_w7 := (hb7.cell atL_w6).trans at0_w6
  have at1_w7 := (hb7.cell atL_w6).trans at1_w6
  have at2_w7 := (hb7.cell atL_w6).trans at2_w6
  have at3_w7 := (hb7.cell atL_w6).trans at3_w6
  have atL_w7 : w.heap.size + 1 < w7.heap.size := Nat.lt_of_lt_of_le atL_w6 hb7.size
  have rs0_w7 := (hb7.cell rsL_w6).trans rs0_w6
  have rs1_w7 := (hb7.cell rsL_w6).trans rs1_w6
  have rsF_w7 : ∀ o, w7.frozen? ⟨w.heap.size + 1 + 1, o, none⟩ = false := fun o => (hb7.frozen rsL_w6).trans (rsF_w6 o)
  have rsL_w7 : w.heap.size + 1 + 1 < w7.heap.size := Nat.lt_of_lt_of_le rsL_w6 hb7.size
  have oP_w7 := hidP (OwnG.later oP_w6.out hb7)
  have oB_w7 := hidP (OwnG.later oB_w6.out hb7)
  have acc_w7 := hidP (acc_w6.out.trans (hb7.mono acc_w6.out.size))
  have w73 := Nat.le_trans w63 hb7.size
  clear pbF_w6 pb0_w6 pb1_w6 pbL_w6 at0_w6 at1_w6 at2_w6 at3_w6 atL_w6 rsF_w6 rs0_w6 rs1_w6 rsL_w6 oP_w6 oB_w6 acc_w6 hb7 w63
  go_wp2_with fail
  refine (HOO.out _).mono ?_
  rintro e w8 ⟨rfl, h8⟩
  subst h8
  go_wp2_with fail
  refine bodyPost_ret (v := .tuple #[.agg #[.slice a np c, .slice b nb d], .int .i64 1]) (by simp [results, Tryz.results15, go_sem, rs0_w7, rs1_w7]) rfl ⟨_, _, _, _, rfl, (OwnG.set2 oP_w7.out kL9).mono (Nat.le_of_lt UL9), (OwnG.set2 oB_w7.out kL9).mono (Nat.le_of_lt UL9), HNE.out, below_set2 acc_w7.out (by omega)⟩

end Go.Proofs.YtmbmekcppmbokaaGreat

/-
  The program's Free where the block is not there, or is another's.
-/
namespace Go.Proofs.YtmbmekcppmbokaaGreat
open Go.RowKit

set_option maxRecDepth 10000 in
set_option maxHeartbeats 4000000 in
theorem iFree_d (pt : Pf) (ow : ByteArray) (how : ow.size ≤ 9223372036854775807) (g h : Nat) (np nb : Nat) (ps : List Pl) (bs : List Bk) (w : World) (hnp : np = ps.length) (hnb : nb = bs.length) (hP : RowG KPl w (some ⟨g, 0, none⟩) ps) (hK : RowG KBk w (some ⟨h, 0, none⟩) bs) (hl : np ≤ 1048576) (hl' : nb ≤ 1048576) (hst : ∀ q ∈ bs, q.t.size ≤ 9223372036854775807) (hr : planB ps bs = true) (hk : pt.pk = true) (ho : ownB ow = true) (hq : ∀ q ∈ bs, q.p ≠ pt) :
    Calls Tryz.prog 15 #[.agg #[.slice (some ⟨g, 0, none⟩) np np, .slice (some ⟨h, 0, none⟩) nb nb], .agg #[.bool pt.s, .int .i64 pt.H.toInt, .int .i64 pt.L.toInt, .int .i64 pt.b], .string ow] w fun e w' => ∃ a c b d, e = .returned (.tuple #[.agg #[.slice a np c, .slice b nb d], .int .i64 (4)]) ∧ OwnG KPl 60 w' w.heap.size (.slice a np c) (ps) ∧ OwnG KBk 62 w' w.heap.size (.slice b nb d) (bs) ∧ (∀ k, (Value.slice a np c).ownBlock = some k → (Value.slice b nb d).ownBlock ≠ some k) ∧ Below w.heap.size w w' := by
  have HOw := hidP (fun W h' => ownPlan_any (some ⟨g, 0, none⟩) np np (some ⟨h, 0, none⟩) nb nb ps bs W hnp hnb (hP.later h') (hK.later h') hl hl')
  have HPO := hidP (fun W a c b d e1 e2 => iPlanOk_any a np c b nb d ps bs W hnp hnb e1 e2 (by omega) (by omega) hst)
  have HPk := hidP (iPrefixOk_any pt.s pt.H pt.L pt.b)
  change Hid (∀ w, Calls Tryz.prog 31 _ w fun e w' => e = .returned (.bool pt.pk) ∧ Below w.heap.size w w') at HPk
  have HOO := hidP (fun W => iOwnerOk_any ow W how)
  obtain ⟨⟨_, h60⟩, hA, hSt⟩ := plan_bs hr
  have hAp := apart_of hSt
  have hBw : ∀ q ∈ bs, bitW q.p := fun q hq => bit_of (hA q hq)
  have h60' : nb ≤ 60 := by omega
  have HBy := hidP (fun W b d e2 => byPrefix_any b nb d bs W hnb e2 (by omega) hBw hAp)
  have HAS := hidP (And.intro hA (And.intro hSt (And.intro hAp hBw)))
  clear hA hSt hAp hBw h60
  have HN := hidP (And.intro hnp hnb)
  clear hP hK hnp hnb hst how
  rw [hr] at HPO
  rw [hk] at HPk
  rw [ho] at HOO
  have HQ := hidP hq
  have HBt := hidP (bit_of hk)
  clear hq
  go_enter Tryz.func15, Tryz.ntmps15
  go_wp2_with fail
  have uF := frz2 w 34 (.slice (some ⟨g, 0, none⟩) np np) (.slice (some ⟨h, 0, none⟩) nb nb)
  obtain ⟨u0, u1⟩ := box2 (u := .slice (some ⟨g, 0, none⟩) np np) (v := .slice (some ⟨h, 0, none⟩) nb nb) w 34
  have uB := alloc_below w (.cells #[.slice (some ⟨g, 0, none⟩) np np, .slice (some ⟨h, 0, none⟩) nb nb] 34)
  have uL := alloc_lt w (.cells #[.slice (some ⟨g, 0, none⟩) np np, .slice (some ⟨h, 0, none⟩) nb nb] 34)
  have uS : (w.alloc (.cells #[.slice (some ⟨g, 0, none⟩) np np, .slice (some ⟨h, 0, none⟩) nb nb] 34)).heap.size = w.heap.size + 1 := by simp
  generalize w.alloc (.cells #[.slice (some ⟨g, 0, none⟩) np np, .slice (some ⟨h, 0, none⟩) nb nb] 34) = W1 at *
  obtain ⟨y0, y1, y2, y3⟩ := box4 (p := pt) W1 37
  have yB := alloc_below W1 (.cells #[.bool pt.s, .int .i64 pt.H.toInt, .int .i64 pt.L.toInt, .int .i64 pt.b] 37)
  have yL := alloc_lt W1 (.cells #[.bool pt.s, .int .i64 pt.H.toInt, .int .i64 pt.L.toInt, .int .i64 pt.b] 37)
  have yS : (W1.alloc (.cells #[.bool pt.s, .int .i64 pt.H.toInt, .int .i64 pt.L.toInt, .int .i64 pt.b] 37)).heap.size = W1.heap.size + 1 := by simp
  generalize W1.alloc (.cells #[.bool pt.s, .int .i64 pt.H.toInt, .int .i64 pt.L.toInt, .int .i64 pt.b] 37) = W2 at *
  rw [uS] at y0 y1 y2 y3 yL yS
  have kF := frz2 W2 34 (.slice none 0 0) (.slice none 0 0)
  obtain ⟨k0, k1⟩ := box2 (u := .slice none 0 0) (v := .slice none 0 0) W2 34
  have kB := alloc_below W2 (.cells #[.slice none 0 0, .slice none 0 0] 34)
  have kL := alloc_lt W2 (.cells #[.slice none 0 0, .slice none 0 0] 34)
  have kS : (W2.alloc (.cells #[.slice none 0 0, .slice none 0 0] 34)).heap.size = W2.heap.size + 1 := by simp
  generalize W2.alloc (.cells #[.slice none 0 0, .slice none 0 0] 34) = W3 at *
  rw [yS] at k0 k1 kL kS
  rw [yS] at kF
  have l0 : w.heap.size < W2.heap.size := by omega
  have l1 : w.heap.size + 1 < W2.heap.size := by omega
  have U0 := (kB.cell l0).trans ((yB.cell uL).trans u0)
  have U1 := (kB.cell l0).trans ((yB.cell uL).trans u1)
  have UF : ∀ o, W3.frozen? ⟨w.heap.size, o, none⟩ = false := fun o => (kB.frozen l0).trans ((yB.frozen uL).trans (uF o))
  have Y0 := (kB.cell l1).trans y0
  have Y1 := (kB.cell l1).trans y1
  have Y2 := (kB.cell l1).trans y2
  have Y3 := (kB.cell l1).trans y3
  have acc0 := hidP ((uB.trans (yB.mono uB.size)).trans (kB.mono (Nat.le_trans uB.size yB.size)))
  have UL : w.heap.size < W3.heap.size := by omega
  have YL : w.heap.size + 1 < W3.heap.size := by omega
  have kL3 : w.heap.size + 1 + 1 < W3.heap.size := by omega
  have UL9 := UL
  have kL9 := kL3
  clear uB yB kB uS yS kS u0 u1 y0 y1 y2 y3 uL yL kL uF l0 l1
  refine (HOw.out _ acc0.out).mono ?_
  rintro e w4 ⟨a, c, b, d, rfl, op, ob, hne, hb4⟩
  have pb0_w4 := (hb4.cell UL).trans U0
  have pb1_w4 := (hb4.cell UL).trans U1
  have pbF_w4 : ∀ o, w4.frozen? ⟨w.heap.size, o, none⟩ = false := fun o => (hb4.frozen UL).trans (UF o)
  have pbL_w4 : w.heap.size < w4.heap.size := Nat.lt_of_lt_of_le UL hb4.size
  have at0_w4 := (hb4.cell YL).trans Y0
  have at1_w4 := (hb4.cell YL).trans Y1
  have at2_w4 := (hb4.cell YL).trans Y2
  have at3_w4 := (hb4.cell YL).trans Y3
  have atL_w4 : w.heap.size + 1 < w4.heap.size := Nat.lt_of_lt_of_le YL hb4.size
  have rs0_w4 := (hb4.cell kL3).trans k0
  have rs1_w4 := (hb4.cell kL3).trans k1
  have rsF_w4 : ∀ o, w4.frozen? ⟨w.heap.size + 1 + 1, o, none⟩ = false := fun o => (hb4.frozen kL3).trans (kF o)
  have rsL_w4 : w.heap.size + 1 + 1 < w4.heap.size := Nat.lt_of_lt_of_le kL3 hb4.size
  have acc_w4 := hidP (acc0.out.trans (hb4.mono acc0.out.size))
  have w43c := hb4.size
  have oP_w4 := hidP op
  have oB_w4 := hidP ob
  have HNE := hidP hne
  clear UF U0 U1 UL Y0 Y1 Y2 Y3 YL kF k0 k1 kL3 acc0 hb4 op ob hne
  go_wp2_with fail
  have p0 : ((w4.setCell ⟨w.heap.size, 0, none⟩ (.slice a np c)).setCell ⟨w.heap.size, 1, none⟩ (.slice b nb d)).cell? ⟨w.heap.size, 0, none⟩ = some (.slice a np c) := by simp [go_sem, pb0_w4]
  have p1 : ((w4.setCell ⟨w.heap.size, 0, none⟩ (.slice a np c)).setCell ⟨w.heap.size, 1, none⟩ (.slice b nb d)).cell? ⟨w.heap.size, 1, none⟩ = some (.slice b nb d) := by simp [go_sem, pb1_w4]
  have pF : ∀ o, ((w4.setCell ⟨w.heap.size, 0, none⟩ (.slice a np c)).setCell ⟨w.heap.size, 1, none⟩ (.slice b nb d)).frozen? ⟨w.heap.size, o, none⟩ = false := fun o => by simp [go_sem, pbF_w4 o]
  have q0 : ((w4.setCell ⟨w.heap.size, 0, none⟩ (.slice a np c)).setCell ⟨w.heap.size, 1, none⟩ (.slice b nb d)).cell? ⟨w.heap.size + 1, 0, none⟩ = _ := cell_set2 at0_w4 (by omega)
  have q1 : ((w4.setCell ⟨w.heap.size, 0, none⟩ (.slice a np c)).setCell ⟨w.heap.size, 1, none⟩ (.slice b nb d)).cell? ⟨w.heap.size + 1, 1, none⟩ = _ := cell_set2 at1_w4 (by omega)
  have q2 : ((w4.setCell ⟨w.heap.size, 0, none⟩ (.slice a np c)).setCell ⟨w.heap.size, 1, none⟩ (.slice b nb d)).cell? ⟨w.heap.size + 1, 2, none⟩ = _ := cell_set2 at2_w4 (by omega)
  have q3 : ((w4.setCell ⟨w.heap.size, 0, none⟩ (.slice a np c)).setCell ⟨w.heap.size, 1, none⟩ (.slice b nb d)).cell? ⟨w.heap.size + 1, 3, none⟩ = _ := cell_set2 at3_w4 (by omega)
  have r0 : ((w4.setCell ⟨w.heap.size, 0, none⟩ (.slice a np c)).setCell ⟨w.heap.size, 1, none⟩ (.slice b nb d)).cell? ⟨w.heap.size + 1 + 1, 0, none⟩ = _ := cell_set2 rs0_w4 (by omega)
  have r1 : ((w4.setCell ⟨w.heap.size, 0, none⟩ (.slice a np c)).setCell ⟨w.heap.size, 1, none⟩ (.slice b nb d)).cell? ⟨w.heap.size + 1 + 1, 1, none⟩ = _ := cell_set2 rs1_w4 (by omega)
  have rF : ∀ o, ((w4.setCell ⟨w.heap.size, 0, none⟩ (.slice a np c)).setCell ⟨w.heap.size, 1, none⟩ (.slice b nb d)).frozen? ⟨w.heap.size + 1 + 1, o, none⟩ = false := fun o => frz_set2 (rsF_w4 o) (by omega)
  have oP5 : Hid (OwnG KPl 60 ((w4.setCell ⟨w.heap.size, 0, none⟩ (.slice a np c)).setCell ⟨w.heap.size, 1, none⟩ (.slice b nb d)) W3.heap.size (.slice a np c) ps) := hidP (OwnG.set2 oP_w4.out UL9)
  have oB5 : Hid (OwnG KBk 62 ((w4.setCell ⟨w.heap.size, 0, none⟩ (.slice a np c)).setCell ⟨w.heap.size, 1, none⟩ (.slice b nb d)) W3.heap.size (.slice b nb d) bs) := hidP (OwnG.set2 oB_w4.out UL9)
  have acc5 : Hid (Below w.heap.size w ((w4.setCell ⟨w.heap.size, 0, none⟩ (.slice a np c)).setCell ⟨w.heap.size, 1, none⟩ (.slice b nb d))) := hidP (below_set2 acc_w4.out (Nat.le_refl _))
  have sL5 : ((w4.setCell ⟨w.heap.size, 0, none⟩ (.slice a np c)).setCell ⟨w.heap.size, 1, none⟩ (.slice b nb d)).heap.size = w4.heap.size := by simp
  generalize ((w4.setCell ⟨w.heap.size, 0, none⟩ (.slice a np c)).setCell ⟨w.heap.size, 1, none⟩ (.slice b nb d)) = W5 at *
  have pL5 : w.heap.size < W5.heap.size := by have := pbL_w4; omega
  have qL5 : w.heap.size + 1 < W5.heap.size := by have := atL_w4; omega
  have rL5 : w.heap.size + 1 + 1 < W5.heap.size := by have := rsL_w4; omega
  have w53 : W3.heap.size ≤ W5.heap.size := by omega
  clear pb0_w4 pb1_w4 pbL_w4 at0_w4 at1_w4 at2_w4 at3_w4 atL_w4 rs0_w4 rs1_w4 rsL_w4 pbF_w4 rsF_w4 oP_w4 oB_w4 acc_w4 sL5 w43c
  refine (HPO.out _ a c b d oP5.out.row oB5.out.row).mono ?_
  rintro e w6 ⟨rfl, hb6⟩
  have pb0_w6 := (hb6.cell pL5).trans p0
  have pb1_w6 := (hb6.cell pL5).trans p1
  have pbF_w6 : ∀ o, w6.frozen? ⟨w.heap.size, o, none⟩ = false := fun o => (hb6.frozen pL5).trans (pF o)
  have pbL_w6 : w.heap.size < w6.heap.size := Nat.lt_of_lt_of_le pL5 hb6.size
  have at0_w6 := (hb6.cell qL5).trans q0
  have at1_w6 := (hb6.cell qL5).trans q1
  have at2_w6 := (hb6.cell qL5).trans q2
  have at3_w6 := (hb6.cell qL5).trans q3
  have atL_w6 : w.heap.size + 1 < w6.heap.size := Nat.lt_of_lt_of_le qL5 hb6.size
  have rs0_w6 := (hb6.cell rL5).trans r0
  have rs1_w6 := (hb6.cell rL5).trans r1
  have rsF_w6 : ∀ o, w6.frozen? ⟨w.heap.size + 1 + 1, o, none⟩ = false := fun o => (hb6.frozen rL5).trans (rF o)
  have rsL_w6 : w.heap.size + 1 + 1 < w6.heap.size := Nat.lt_of_lt_of_le rL5 hb6.size
  have oP_w6 := hidP (OwnG.later oP5.out hb6)
  have oB_w6 := hidP (OwnG.later oB5.out hb6)
  have acc_w6 := hidP (acc5.out.trans (hb6.mono acc5.out.size))
  have w63 := Nat.le_trans w53 hb6.size
  clear pF p0 p1 pL5 q0 q1 q2 q3 qL5 rF r0 r1 rL5 oP5 oB5 acc5 hb6 w53
  go_wp2_with fail
  refine (HPk.out _).mono ?_
  rintro e w7 ⟨rfl, hb7⟩
  have pb0_w7 := (hb7.cell pbL_w6).trans pb0_w6
  have pb1_w7 := (hb7.cell pbL_w6).trans pb1_w6
  have pbF_w7 : ∀ o, w7.frozen? ⟨w.heap.size, o, none⟩ = false := fun o => (hb7.frozen pbL_w6).trans (pbF_w6 o)
  have pbL_w7 : w.heap.size < w7.heap.size := Nat.lt_of_lt_of_le pbL_w6 hb7.size
  have at0_w7 := (hb7.cell atL_w6).trans at0_w6
  have at1_w7 := (hb7.cell atL_w6).trans at1_w6
  have at2_w7 := (hb7.cell atL_w6).trans at2_w6
  have at3_w7 := (hb7.cell atL_w6).trans at3_w6
  have atL_w7 : w.heap.size + 1 < w7.heap.size := Nat.lt_of_lt_of_le atL_w6 hb7.size
  have rs0_w7 := (hb7.cell rsL_w6).trans rs0_w6
  have rs1_w7 := (hb7.cell rsL_w6).trans rs1_w6
  have rsF_w7 : ∀ o, w7.frozen? ⟨w.heap.size + 1 + 1, o, none⟩ = false := fun o => (hb7.frozen rsL_w6).trans (rsF_w6 o)
  have rsL_w7 : w.heap.size + 1 + 1 < w7.heap.size := Nat.lt_of_lt_of_le rsL_w6 hb7.size
  have oP_w7 := hidP (OwnG.later oP_w6.out hb7)
  have oB_w7 := hidP (OwnG.later oB_w6.out hb7)
  have acc_w7 := hidP (acc_w6.out.trans (hb7.mono acc_w6.out.size))
  have w73 := Nat.le_trans w63 hb7.size
  clear pbF_w6 pb0_w6 pb1_w6 pbL_w6 at0_w6 at1_w6 at2_w6 at3_w6 atL_w6 rsF_w6 rs0_w6 rs1_w6 rsL_w6 oP_w6 oB_w6 acc_w6 hb7 w63
  go_wp2_with fail
  refine (HOO.out _).mono ?_
  rintro e w8 ⟨rfl, h8⟩
  subst h8
  have HLP := hidP (fun k hk => (OwnG.lt oP_w7.out k hk).2)
  go_wp2_with fail
  refine (HBy.out _ b d oB_w7.out.row).mono ?_
  rintro e w9 ⟨rfl, ⟨D, hm, hH⟩, hb9⟩
  have pb0_w9 := (hb9.cell pbL_w7).trans pb0_w7
  have pb1_w9 := (hb9.cell pbL_w7).trans pb1_w7
  have pbF_w9 : ∀ o, w9.frozen? ⟨w.heap.size, o, none⟩ = false := fun o => (hb9.frozen pbL_w7).trans (pbF_w7 o)
  have pbL_w9 : w.heap.size < w9.heap.size := Nat.lt_of_lt_of_le pbL_w7 hb9.size
  have at0_w9 := (hb9.cell atL_w7).trans at0_w7
  have at1_w9 := (hb9.cell atL_w7).trans at1_w7
  have at2_w9 := (hb9.cell atL_w7).trans at2_w7
  have at3_w9 := (hb9.cell atL_w7).trans at3_w7
  have atL_w9 : w.heap.size + 1 < w9.heap.size := Nat.lt_of_lt_of_le atL_w7 hb9.size
  have rs0_w9 := (hb9.cell rsL_w7).trans rs0_w7
  have rs1_w9 := (hb9.cell rsL_w7).trans rs1_w7
  have rsF_w9 : ∀ o, w9.frozen? ⟨w.heap.size + 1 + 1, o, none⟩ = false := fun o => (hb9.frozen rsL_w7).trans (rsF_w7 o)
  have rsL_w9 : w.heap.size + 1 + 1 < w9.heap.size := Nat.lt_of_lt_of_le rsL_w7 hb9.size
  have oP_w9 := hidP (OwnG.later oP_w7.out hb9)
  have oB_w9 := hidP (OwnG.later oB_w7.out hb9)
  have acc_w9 := hidP (acc_w7.out.trans (hb9.mono acc_w7.out.size))
  have HM := hidP (And.intro hm hH)
  have sz9 := hb9.size
  have lm := hm.lt
  clear pbF_w7 pb0_w7 pb1_w7 pbL_w7 at0_w7 at1_w7 at2_w7 at3_w7 atL_w7 rsF_w7 rs0_w7 rs1_w7 rsL_w7 oP_w7 oB_w7 acc_w7 hb9 hm hH
  go_upto_region 6 with (at_lookup; refine wpList_lookN _ rfl (.tmp 31) (.tmp 32) rfl w8.heap.size pt HM.out.2 HBt.out HQ.out rfl HM.out.1 rfl ?_; intro q)
  obtain ⟨v0, v1, v2, v3, v4⟩ := boxBk (q := q) w9 62
  have vB := alloc_below w9 (.cells #[.bool q.p.s, .int .i64 q.p.H.toInt, .int .i64 q.p.L.toInt, .int .i64 q.p.b, .string q.t] 62)
  have vL := alloc_lt w9 (.cells #[.bool q.p.s, .int .i64 q.p.H.toInt, .int .i64 q.p.L.toInt, .int .i64 q.p.b, .string q.t] 62)
  have vS : (w9.alloc (.cells #[.bool q.p.s, .int .i64 q.p.H.toInt, .int .i64 q.p.L.toInt, .int .i64 q.p.b, .string q.t] 62)).heap.size = w9.heap.size + 1 := by simp
  generalize w9.alloc (.cells #[.bool q.p.s, .int .i64 q.p.H.toInt, .int .i64 q.p.L.toInt, .int .i64 q.p.b, .string q.t] 62) = X1 at *
  have hb10 := vB
  have pb0_X1 := (hb10.cell pbL_w9).trans pb0_w9
  have pb1_X1 := (hb10.cell pbL_w9).trans pb1_w9
  have pbF_X1 : ∀ o, X1.frozen? ⟨w.heap.size, o, none⟩ = false := fun o => (hb10.frozen pbL_w9).trans (pbF_w9 o)
  have pbL_X1 : w.heap.size < X1.heap.size := Nat.lt_of_lt_of_le pbL_w9 hb10.size
  have at0_X1 := (hb10.cell atL_w9).trans at0_w9
  have at1_X1 := (hb10.cell atL_w9).trans at1_w9
  have at2_X1 := (hb10.cell atL_w9).trans at2_w9
  have at3_X1 := (hb10.cell atL_w9).trans at3_w9
  have atL_X1 : w.heap.size + 1 < X1.heap.size := Nat.lt_of_lt_of_le atL_w9 hb10.size
  have rs0_X1 := (hb10.cell rsL_w9).trans rs0_w9
  have rs1_X1 := (hb10.cell rsL_w9).trans rs1_w9
  have rsF_X1 : ∀ o, X1.frozen? ⟨w.heap.size + 1 + 1, o, none⟩ = false := fun o => (hb10.frozen rsL_w9).trans (rsF_w9 o)
  have rsL_X1 : w.heap.size + 1 + 1 < X1.heap.size := Nat.lt_of_lt_of_le rsL_w9 hb10.size
  have oP_X1 := hidP (OwnG.later oP_w9.out hb10)
  have oB_X1 := hidP (OwnG.later oB_w9.out hb10)
  have acc_X1 := hidP (acc_w9.out.trans (hb10.mono acc_w9.out.size))
  clear pbF_w9 pb0_w9 pb1_w9 pbL_w9 at0_w9 at1_w9 at2_w9 at3_w9 atL_w9 rsF_w9 rs0_w9 rs1_w9 rsL_w9 oP_w9 oB_w9 acc_w9 hb10 vB HM
  go_wp2_with fail
  refine bodyPost_ret (v := .tuple #[.agg #[.slice a np c, .slice b nb d], .int .i64 4]) (by simp [results, Tryz.results15, go_sem, rs0_X1, rs1_X1]) rfl ⟨_, _, _, _, rfl, (OwnG.set2 oP_X1.out kL9).mono (Nat.le_of_lt UL9), (OwnG.set2 oB_X1.out kL9).mono (Nat.le_of_lt UL9), HNE.out, below_set2 acc_X1.out (by omega)⟩

set_option maxRecDepth 10000 in
set_option maxHeartbeats 4000000 in
theorem iFree_d2 (pt : Pf) (ow : ByteArray) (how : ow.size ≤ 9223372036854775807) (g h : Nat) (np nb : Nat) (ps : List Pl) (bs : List Bk) (w : World) (hnp : np = ps.length) (hnb : nb = bs.length) (hP : RowG KPl w (some ⟨g, 0, none⟩) ps) (hK : RowG KBk w (some ⟨h, 0, none⟩) bs) (hl : np ≤ 1048576) (hl' : nb ≤ 1048576) (hst : ∀ q ∈ bs, q.t.size ≤ 9223372036854775807) (hr : planB ps bs = true) (hk : pt.pk = true) (ho : ownB ow = true) (q : Bk) (hq : q ∈ bs) (hqp : q.p = pt) (hqt : (q.t.toList == ow.toList) = false) :
    Calls Tryz.prog 15 #[.agg #[.slice (some ⟨g, 0, none⟩) np np, .slice (some ⟨h, 0, none⟩) nb nb], .agg #[.bool pt.s, .int .i64 pt.H.toInt, .int .i64 pt.L.toInt, .int .i64 pt.b], .string ow] w fun e w' => ∃ a c b d, e = .returned (.tuple #[.agg #[.slice a np c, .slice b nb d], .int .i64 (4)]) ∧ OwnG KPl 60 w' w.heap.size (.slice a np c) (ps) ∧ OwnG KBk 62 w' w.heap.size (.slice b nb d) (bs) ∧ (∀ k, (Value.slice a np c).ownBlock = some k → (Value.slice b nb d).ownBlock ≠ some k) ∧ Below w.heap.size w w' := by
  have HOw := hidP (fun W h' => ownPlan_any (some ⟨g, 0, none⟩) np np (some ⟨h, 0, none⟩) nb nb ps bs W hnp hnb (hP.later h') (hK.later h') hl hl')
  have HPO := hidP (fun W a c b d e1 e2 => iPlanOk_any a np c b nb d ps bs W hnp hnb e1 e2 (by omega) (by omega) hst)
  have HPk := hidP (iPrefixOk_any pt.s pt.H pt.L pt.b)
  change Hid (∀ w, Calls Tryz.prog 31 _ w fun e w' => e = .returned (.bool pt.pk) ∧ Below w.heap.size w w') at HPk
  have HOO := hidP (fun W => iOwnerOk_any ow W how)
  obtain ⟨⟨_, h60⟩, hA, hSt⟩ := plan_bs hr
  have hAp := apart_of hSt
  have hBw : ∀ q ∈ bs, bitW q.p := fun q hq => bit_of (hA q hq)
  have h60' : nb ≤ 60 := by omega
  have HBy := hidP (fun W b d e2 => byPrefix_any b nb d bs W hnb e2 (by omega) hBw hAp)
  have HAS := hidP (And.intro hA (And.intro hSt (And.intro hAp hBw)))
  clear hA hSt hAp hBw h60
  have HN := hidP (And.intro hnp hnb)
  clear hP hK hnp hnb hst how
  rw [hr] at HPO
  rw [hk] at HPk
  rw [ho] at HOO
  have HQ := hidP (And.intro hq hqp)
  clear hq hqp
  go_enter Tryz.func15, Tryz.ntmps15
  go_wp2_with fail
  have uF := frz2 w 34 (.slice (some ⟨g, 0, none⟩) np np) (.slice (some ⟨h, 0, none⟩) nb nb)
  obtain ⟨u0, u1⟩ := box2 (u := .slice (some ⟨g, 0, none⟩) np np) (v := .slice (some ⟨h, 0, none⟩) nb nb) w 34
  have uB := alloc_below w (.cells #[.slice (some ⟨g, 0, none⟩) np np, .slice (some ⟨h, 0, none⟩) nb nb] 34)
  have uL := alloc_lt w (.cells #[.slice (some ⟨g, 0, none⟩) np np, .slice (some ⟨h, 0, none⟩) nb nb] 34)
  have uS : (w.alloc (.cells #[.slice (some ⟨g, 0, none⟩) np np, .slice (some ⟨h, 0, none⟩) nb nb] 34)).heap.size = w.heap.size + 1 := by simp
  generalize w.alloc (.cells #[.slice (some ⟨g, 0, none⟩) np np, .slice (some ⟨h, 0, none⟩) nb nb] 34) = W1 at *
  obtain ⟨y0, y1, y2, y3⟩ := box4 (p := pt) W1 37
  have yB := alloc_below W1 (.cells #[.bool pt.s, .int .i64 pt.H.toInt, .int .i64 pt.L.toInt, .int .i64 pt.b] 37)
  have yL := alloc_lt W1 (.cells #[.bool pt.s, .int .i64 pt.H.toInt, .int .i64 pt.L.toInt, .int .i64 pt.b] 37)
  have yS : (W1.alloc (.cells #[.bool pt.s, .int .i64 pt.H.toInt, .int .i64 pt.L.toInt, .int .i64 pt.b] 37)).heap.size = W1.heap.size + 1 := by simp
  generalize W1.alloc (.cells #[.bool pt.s, .int .i64 pt.H.toInt, .int .i64 pt.L.toInt, .int .i64 pt.b] 37) = W2 at *
  rw [uS] at y0 y1 y2 y3 yL yS
  have kF := frz2 W2 34 (.slice none 0 0) (.slice none 0 0)
  obtain ⟨k0, k1⟩ := box2 (u := .slice none 0 0) (v := .slice none 0 0) W2 34
  have kB := alloc_below W2 (.cells #[.slice none 0 0, .slice none 0 0] 34)
  have kL := alloc_lt W2 (.cells #[.slice none 0 0, .slice none 0 0] 34)
  have kS : (W2.alloc (.cells #[.slice none 0 0, .slice none 0 0] 34)).heap.size = W2.heap.size + 1 := by simp
  generalize W2.alloc (.cells #[.slice none 0 0, .slice none 0 0] 34) = W3 at *
  rw [yS] at k0 k1 kL kS
  rw [yS] at kF
  have l0 : w.heap.size < W2.heap.size := by omega
  have l1 : w.heap.size + 1 < W2.heap.size := by omega
  have U0 := (kB.cell l0).trans ((yB.cell uL).trans u0)
  have U1 := (kB.cell l0).trans ((yB.cell uL).trans u1)
  have UF : ∀ o, W3.frozen? ⟨w.heap.size, o, none⟩ = false := fun o => (kB.frozen l0).trans ((yB.frozen uL).trans (uF o))
  have Y0 := (kB.cell l1).trans y0
  have Y1 := (kB.cell l1).trans y1
  have Y2 := (kB.cell l1).trans y2
  have Y3 := (kB.cell l1).trans y3
  have acc0 := hidP ((uB.trans (yB.mono uB.size)).trans (kB.mono (Nat.le_trans uB.size yB.size)))
  have UL : w.heap.size < W3.heap.size := by omega
  have YL : w.heap.size + 1 < W3.heap.size := by omega
  have kL3 : w.heap.size + 1 + 1 < W3.heap.size := by omega
  have UL9 := UL
  have kL9 := kL3
  clear uB yB kB uS yS kS u0 u1 y0 y1 y2 y3 uL yL kL uF l0 l1
  refine (HOw.out _ acc0.out).mono ?_
  rintro e w4 ⟨a, c, b, d, rfl, op, ob, hne, hb4⟩
  have pb0_w4 := (hb4.cell UL).trans U0
  have pb1_w4 := (hb4.cell UL).trans U1
  have pbF_w4 : ∀ o, w4.frozen? ⟨w.heap.size, o, none⟩ = false := fun o => (hb4.frozen UL).trans (UF o)
  have pbL_w4 : w.heap.size < w4.heap.size := Nat.lt_of_lt_of_le UL hb4.size
  have at0_w4 := (hb4.cell YL).trans Y0
  have at1_w4 := (hb4.cell YL).trans Y1
  have at2_w4 := (hb4.cell YL).trans Y2
  have at3_w4 := (hb4.cell YL).trans Y3
  have atL_w4 : w.heap.size + 1 < w4.heap.size := Nat.lt_of_lt_of_le YL hb4.size
  have rs0_w4 := (hb4.cell kL3).trans k0
  have rs1_w4 := (hb4.cell kL3).trans k1
  have rsF_w4 : ∀ o, w4.frozen? ⟨w.heap.size + 1 + 1, o, none⟩ = false := fun o => (hb4.frozen kL3).trans (kF o)
  have rsL_w4 : w.heap.size + 1 + 1 < w4.heap.size := Nat.lt_of_lt_of_le kL3 hb4.size
  have acc_w4 := hidP (acc0.out.trans (hb4.mono acc0.out.size))
  have w43c := hb4.size
  have oP_w4 := hidP op
  have oB_w4 := hidP ob
  have HNE := hidP hne
  clear UF U0 U1 UL Y0 Y1 Y2 Y3 YL kF k0 k1 kL3 acc0 hb4 op ob hne
  go_wp2_with fail
  have p0 : ((w4.setCell ⟨w.heap.size, 0, none⟩ (.slice a np c)).setCell ⟨w.heap.size, 1, none⟩ (.slice b nb d)).cell? ⟨w.heap.size, 0, none⟩ = some (.slice a np c) := by simp [go_sem, pb0_w4]
  have p1 : ((w4.setCell ⟨w.heap.size, 0, none⟩ (.slice a np c)).setCell ⟨w.heap.size, 1, none⟩ (.slice b nb d)).cell? ⟨w.heap.size, 1, none⟩ = some (.slice b nb d) := by simp [go_sem, pb1_w4]
  have pF : ∀ o, ((w4.setCell ⟨w.heap.size, 0, none⟩ (.slice a np c)).setCell ⟨w.heap.size, 1, none⟩ (.slice b nb d)).frozen? ⟨w.heap.size, o, none⟩ = false := fun o => by simp [go_sem, pbF_w4 o]
  have q0 : ((w4.setCell ⟨w.heap.size, 0, none⟩ (.slice a np c)).setCell ⟨w.heap.size, 1, none⟩ (.slice b nb d)).cell? ⟨w.heap.size + 1, 0, none⟩ = _ := cell_set2 at0_w4 (by omega)
  have q1 : ((w4.setCell ⟨w.heap.size, 0, none⟩ (.slice a np c)).setCell ⟨w.heap.size, 1, none⟩ (.slice b nb d)).cell? ⟨w.heap.size + 1, 1, none⟩ = _ := cell_set2 at1_w4 (by omega)
  have q2 : ((w4.setCell ⟨w.heap.size, 0, none⟩ (.slice a np c)).setCell ⟨w.heap.size, 1, none⟩ (.slice b nb d)).cell? ⟨w.heap.size + 1, 2, none⟩ = _ := cell_set2 at2_w4 (by omega)
  have q3 : ((w4.setCell ⟨w.heap.size, 0, none⟩ (.slice a np c)).setCell ⟨w.heap.size, 1, none⟩ (.slice b nb d)).cell? ⟨w.heap.size + 1, 3, none⟩ = _ := cell_set2 at3_w4 (by omega)
  have r0 : ((w4.setCell ⟨w.heap.size, 0, none⟩ (.slice a np c)).setCell ⟨w.heap.size, 1, none⟩ (.slice b nb d)).cell? ⟨w.heap.size + 1 + 1, 0, none⟩ = _ := cell_set2 rs0_w4 (by omega)
  have r1 : ((w4.setCell ⟨w.heap.size, 0, none⟩ (.slice a np c)).setCell ⟨w.heap.size, 1, none⟩ (.slice b nb d)).cell? ⟨w.heap.size + 1 + 1, 1, none⟩ = _ := cell_set2 rs1_w4 (by omega)
  have rF : ∀ o, ((w4.setCell ⟨w.heap.size, 0, none⟩ (.slice a np c)).setCell ⟨w.heap.size, 1, none⟩ (.slice b nb d)).frozen? ⟨w.heap.size + 1 + 1, o, none⟩ = false := fun o => frz_set2 (rsF_w4 o) (by omega)
  have oP5 : Hid (OwnG KPl 60 ((w4.setCell ⟨w.heap.size, 0, none⟩ (.slice a np c)).setCell ⟨w.heap.size, 1, none⟩ (.slice b nb d)) W3.heap.size (.slice a np c) ps) := hidP (OwnG.set2 oP_w4.out UL9)
  have oB5 : Hid (OwnG KBk 62 ((w4.setCell ⟨w.heap.size, 0, none⟩ (.slice a np c)).setCell ⟨w.heap.size, 1, none⟩ (.slice b nb d)) W3.heap.size (.slice b nb d) bs) := hidP (OwnG.set2 oB_w4.out UL9)
  have acc5 : Hid (Below w.heap.size w ((w4.setCell ⟨w.heap.size, 0, none⟩ (.slice a np c)).setCell ⟨w.heap.size, 1, none⟩ (.slice b nb d))) := hidP (below_set2 acc_w4.out (Nat.le_refl _))
  have sL5 : ((w4.setCell ⟨w.heap.size, 0, none⟩ (.slice a np c)).setCell ⟨w.heap.size, 1, none⟩ (.slice b nb d)).heap.size = w4.heap.size := by simp
  generalize ((w4.setCell ⟨w.heap.size, 0, none⟩ (.slice a np c)).setCell ⟨w.heap.size, 1, none⟩ (.slice b nb d)) = W5 at *
  have pL5 : w.heap.size < W5.heap.size := by have := pbL_w4; omega
  have qL5 : w.heap.size + 1 < W5.heap.size := by have := atL_w4; omega
  have rL5 : w.heap.size + 1 + 1 < W5.heap.size := by have := rsL_w4; omega
  have w53 : W3.heap.size ≤ W5.heap.size := by omega
  clear pb0_w4 pb1_w4 pbL_w4 at0_w4 at1_w4 at2_w4 at3_w4 atL_w4 rs0_w4 rs1_w4 rsL_w4 pbF_w4 rsF_w4 oP_w4 oB_w4 acc_w4 sL5 w43c
  refine (HPO.out _ a c b d oP5.out.row oB5.out.row).mono ?_
  rintro e w6 ⟨rfl, hb6⟩
  have pb0_w6 := (hb6.cell pL5).trans p0
  have pb1_w6 := (hb6.cell pL5).trans p1
  have pbF_w6 : ∀ o, w6.frozen? ⟨w.heap.size, o, none⟩ = false := fun o => (hb6.frozen pL5).trans (pF o)
  have pbL_w6 : w.heap.size < w6.heap.size := Nat.lt_of_lt_of_le pL5 hb6.size
  have at0_w6 := (hb6.cell qL5).trans q0
  have at1_w6 := (hb6.cell qL5).trans q1
  have at2_w6 := (hb6.cell qL5).trans q2
  have at3_w6 := (hb6.cell qL5).trans q3
  have atL_w6 : w.heap.size + 1 < w6.heap.size := Nat.lt_of_lt_of_le qL5 hb6.size
  have rs0_w6 := (hb6.cell rL5).trans r0
  have rs1_w6 := (hb6.cell rL5).trans r1
  have rsF_w6 : ∀ o, w6.frozen? ⟨w.heap.size + 1 + 1, o, none⟩ = false := fun o => (hb6.frozen rL5).trans (rF o)
  have rsL_w6 : w.heap.size + 1 + 1 < w6.heap.size := Nat.lt_of_lt_of_le rL5 hb6.size
  have oP_w6 := hidP (OwnG.later oP5.out hb6)
  have oB_w6 := hidP (OwnG.later oB5.out hb6)
  have acc_w6 := hidP (acc5.out.trans (hb6.mono acc5.out.size))
  have w63 := Nat.le_trans w53 hb6.size
  clear pF p0 p1 pL5 q0 q1 q2 q3 qL5 rF r0 r1 rL5 oP5 oB5 acc5 hb6 w53
  go_wp2_with fail
  refine (HPk.out _).mono ?_
  rintro e w7 ⟨rfl, hb7⟩
  have pb0_w7 := (hb7.cell pbL_w6).trans pb0_w6
  have pb1_w7 := (hb7.cell pbL_w6).trans pb1_w6
  have pbF_w7 : ∀ o, w7.frozen? ⟨w.heap.size, o, none⟩ = false := fun o => (hb7.frozen pbL_w6).trans (pbF_w6 o)
  have pbL_w7 : w.heap.size < w7.heap.size := Nat.lt_of_lt_of_le pbL_w6 hb7.size
  have at0_w7 := (hb7.cell atL_w6).trans at0_w6
  have at1_w7 := (hb7.cell atL_w6).trans at1_w6
  have at2_w7 := (hb7.cell atL_w6).trans at2_w6
  have at3_w7 := (hb7.cell atL_w6).trans at3_w6
  have atL_w7 : w.heap.size + 1 < w7.heap.size := Nat.lt_of_lt_of_le atL_w6 hb7.size
  have rs0_w7 := (hb7.cell rsL_w6).trans rs0_w6
  have rs1_w7 := (hb7.cell rsL_w6).trans rs1_w6
  have rsF_w7 : ∀ o, w7.frozen? ⟨w.heap.size + 1 + 1, o, none⟩ = false := fun o => (hb7.frozen rsL_w6).trans (rsF_w6 o)
  have rsL_w7 : w.heap.size + 1 + 1 < w7.heap.size := Nat.lt_of_lt_of_le rsL_w6 hb7.size
  have oP_w7 := hidP (OwnG.later oP_w6.out hb7)
  have oB_w7 := hidP (OwnG.later oB_w6.out hb7)
  have acc_w7 := hidP (acc_w6.out.trans (hb7.mono acc_w6.out.size))
  have w73 := Nat.le_trans w63 hb7.size
  clear pbF_w6 pb0_w6 pb1_w6 pbL_w6 at0_w6 at1_w6 at2_w6 at3_w6 atL_w6 rsF_w6 rs0_w6 rs1_w6 rsL_w6 oP_w6 oB_w6 acc_w6 hb7 w63
  go_wp2_with fail
  refine (HOO.out _).mono ?_
  rintro e w8 ⟨rfl, h8⟩
  subst h8
  have HLP := hidP (fun k hk => (OwnG.lt oP_w7.out k hk).2)
  go_wp2_with fail
  refine (HBy.out _ b d oB_w7.out.row).mono ?_
  rintro e w9 ⟨rfl, ⟨D, hm, hH⟩, hb9⟩
  have pb0_w9 := (hb9.cell pbL_w7).trans pb0_w7
  have pb1_w9 := (hb9.cell pbL_w7).trans pb1_w7
  have pbF_w9 : ∀ o, w9.frozen? ⟨w.heap.size, o, none⟩ = false := fun o => (hb9.frozen pbL_w7).trans (pbF_w7 o)
  have pbL_w9 : w.heap.size < w9.heap.size := Nat.lt_of_lt_of_le pbL_w7 hb9.size
  have at0_w9 := (hb9.cell atL_w7).trans at0_w7
  have at1_w9 := (hb9.cell atL_w7).trans at1_w7
  have at2_w9 := (hb9.cell atL_w7).trans at2_w7
  have at3_w9 := (hb9.cell atL_w7).trans at3_w7
  have atL_w9 : w.heap.size + 1 < w9.heap.size := Nat.lt_of_lt_of_le atL_w7 hb9.size
  have rs0_w9 := (hb9.cell rsL_w7).trans rs0_w7
  have rs1_w9 := (hb9.cell rsL_w7).trans rs1_w7
  have rsF_w9 : ∀ o, w9.frozen? ⟨w.heap.size + 1 + 1, o, none⟩ = false := fun o => (hb9.frozen rsL_w7).trans (rsF_w7 o)
  have rsL_w9 : w.heap.size + 1 + 1 < w9.heap.size := Nat.lt_of_lt_of_le rsL_w7 hb9.size
  have oP_w9 := hidP (OwnG.later oP_w7.out hb9)
  have oB_w9 := hidP (OwnG.later oB_w7.out hb9)
  have acc_w9 := hidP (acc_w7.out.trans (hb9.mono acc_w7.out.size))
  have HM := hidP (And.intro hm hH)
  have sz9 := hb9.size
  have lm := hm.lt
  clear pbF_w7 pb0_w7 pb1_w7 pbL_w7 at0_w7 at1_w7 at2_w7 at3_w7 atL_w7 rsF_w7 rs0_w7 rs1_w7 rsL_w7 oP_w7 oB_w7 acc_w7 hb9 hm hH
  go_upto_region 6 with (at_lookup; refine wpList_lookB _ rfl (.tmp 31) (.tmp 32) rfl w8.heap.size pt q HM.out.2 HQ.out.1 HQ.out.2 rfl HM.out.1 rfl ?_)
  obtain ⟨v0, v1, v2, v3, v4⟩ := boxBk (q := q) w9 62
  have vB := alloc_below w9 (.cells #[.bool q.p.s, .int .i64 q.p.H.toInt, .int .i64 q.p.L.toInt, .int .i64 q.p.b, .string q.t] 62)
  have vL := alloc_lt w9 (.cells #[.bool q.p.s, .int .i64 q.p.H.toInt, .int .i64 q.p.L.toInt, .int .i64 q.p.b, .string q.t] 62)
  have vS : (w9.alloc (.cells #[.bool q.p.s, .int .i64 q.p.H.toInt, .int .i64 q.p.L.toInt, .int .i64 q.p.b, .string q.t] 62)).heap.size = w9.heap.size + 1 := by simp
  generalize w9.alloc (.cells #[.bool q.p.s, .int .i64 q.p.H.toInt, .int .i64 q.p.L.toInt, .int .i64 q.p.b, .string q.t] 62) = X1 at *
  have hb10 := vB
  have pb0_X1 := (hb10.cell pbL_w9).trans pb0_w9
  have pb1_X1 := (hb10.cell pbL_w9).trans pb1_w9
  have pbF_X1 : ∀ o, X1.frozen? ⟨w.heap.size, o, none⟩ = false := fun o => (hb10.frozen pbL_w9).trans (pbF_w9 o)
  have pbL_X1 : w.heap.size < X1.heap.size := Nat.lt_of_lt_of_le pbL_w9 hb10.size
  have at0_X1 := (hb10.cell atL_w9).trans at0_w9
  have at1_X1 := (hb10.cell atL_w9).trans at1_w9
  have at2_X1 := (hb10.cell atL_w9).trans at2_w9
  have at3_X1 := (hb10.cell atL_w9).trans at3_w9
  have atL_X1 : w.heap.size + 1 < X1.heap.size := Nat.lt_of_lt_of_le atL_w9 hb10.size
  have rs0_X1 := (hb10.cell rsL_w9).trans rs0_w9
  have rs1_X1 := (hb10.cell rsL_w9).trans rs1_w9
  have rsF_X1 : ∀ o, X1.frozen? ⟨w.heap.size + 1 + 1, o, none⟩ = false := fun o => (hb10.frozen rsL_w9).trans (rsF_w9 o)
  have rsL_X1 : w.heap.size + 1 + 1 < X1.heap.size := Nat.lt_of_lt_of_le rsL_w9 hb10.size
  have oP_X1 := hidP (OwnG.later oP_w9.out hb10)
  have oB_X1 := hidP (OwnG.later oB_w9.out hb10)
  have acc_X1 := hidP (acc_w9.out.trans (hb10.mono acc_w9.out.size))
  clear pbF_w9 pb0_w9 pb1_w9 pbL_w9 at0_w9 at1_w9 at2_w9 at3_w9 atL_w9 rsF_w9 rs0_w9 rs1_w9 rsL_w9 oP_w9 oB_w9 acc_w9 hb10 vB HM
  go_wp2_with fail
  refine bodyPost_ret (v := .tuple #[.agg #[.slice a np c, .slice b nb d], .int .i64 4]) (by simp [results, Tryz.results15, go_sem, rs0_X1, rs1_X1]) rfl ⟨_, _, _, _, rfl, (OwnG.set2 oP_X1.out kL9).mono (Nat.le_of_lt UL9), (OwnG.set2 oB_X1.out kL9).mono (Nat.le_of_lt UL9), HNE.out, below_set2 acc_X1.out (by omega)⟩

end Go.Proofs.YtmbmekcppmbokaaGreat

/-
  The program's Free where the block goes.
-/
namespace Go.Proofs.YtmbmekcppmbokaaGreat
open Go.RowKit

theorem OwnG.set1b {α : Type} {K : Kd α} {t : TypeId} {w : World} {B x : Nat} {v u : Value} {ps : List α} (h : OwnG K t w B v ps) (hx : x < B) : OwnG K t (w.setCell ⟨x, 1, none⟩ u) B v ps :=
  OwnG.grown h (grown_cellG w x 1 u) (fun k hk e => by have := (OwnG.lt h k hk).1; simp at e; omega)
theorem below_set1b {w0 w : World} {B0 x : Nat} {u : Value} (h : Below B0 w0 w) (hx : B0 ≤ x) : Below B0 w0 (w.setCell ⟨x, 1, none⟩ u) := h.setCell hx _

set_option maxRecDepth 10000 in
set_option maxHeartbeats 4000000 in
theorem iFree_e (pt : Pf) (ow : ByteArray) (how : ow.size ≤ 9223372036854775807) (g h : Nat) (np nb : Nat) (ps : List Pl) (bs : List Bk) (w : World) (hnp : np = ps.length) (hnb : nb = bs.length) (hP : RowG KPl w (some ⟨g, 0, none⟩) ps) (hK : RowG KBk w (some ⟨h, 0, none⟩) bs) (hl : np ≤ 1048576) (hl' : nb ≤ 1048576) (hst : ∀ q ∈ bs, q.t.size ≤ 9223372036854775807) (hr : planB ps bs = true) (hk : pt.pk = true) (ho : ownB ow = true) (i : Nat) (q : Bk) (hi : bs[i]? = some q) (hqp : q.p = pt) (hqt : (q.t.toList == ow.toList) = true) :
    Calls Tryz.prog 15 #[.agg #[.slice (some ⟨g, 0, none⟩) np np, .slice (some ⟨h, 0, none⟩) nb nb], .agg #[.bool pt.s, .int .i64 pt.H.toInt, .int .i64 pt.L.toInt, .int .i64 pt.b], .string ow] w fun e w' => ∃ a c b d, e = .returned (.tuple #[.agg #[.slice a np c, .slice b (nb - 1) d], .int .i64 (0)]) ∧ OwnG KPl 60 w' w.heap.size (.slice a np c) (ps) ∧ OwnG KBk 62 w' w.heap.size (.slice b (nb - 1) d) (bs.eraseIdx i) ∧ (∀ k, (Value.slice a np c).ownBlock = some k → (Value.slice b (nb - 1) d).ownBlock ≠ some k) ∧ Below w.heap.size w w' := by
  have HOw := hidP (fun W h' => ownPlan_any (some ⟨g, 0, none⟩) np np (some ⟨h, 0, none⟩) nb nb ps bs W hnp hnb (hP.later h') (hK.later h') hl hl')
  have HPO := hidP (fun W a c b d e1 e2 => iPlanOk_any a np c b nb d ps bs W hnp hnb e1 e2 (by omega) (by omega) hst)
  have HPk := hidP (iPrefixOk_any pt.s pt.H pt.L pt.b)
  change Hid (∀ w, Calls Tryz.prog 31 _ w fun e w' => e = .returned (.bool pt.pk) ∧ Below w.heap.size w w') at HPk
  have HOO := hidP (fun W => iOwnerOk_any ow W how)
  obtain ⟨⟨_, h60⟩, hA, hSt⟩ := plan_bs hr
  have hAp := apart_of hSt
  have hBw : ∀ q ∈ bs, bitW q.p := fun q hq => bit_of (hA q hq)
  have h60' : nb ≤ 60 := by omega
  have HBy := hidP (fun W b d e2 => byPrefix_any b nb d bs W hnb e2 (by omega) hBw hAp)
  have HAS := hidP (And.intro hA (And.intro hSt (And.intro hAp hBw)))
  clear hA hSt hAp hBw h60
  have HN := hidP (And.intro hnp hnb)
  clear hP hK hnp hnb hst how
  rw [hr] at HPO
  rw [hk] at HPk
  rw [ho] at HOO
  have HQ := hidP (And.intro (List.mem_of_getElem? hi) hqp)
  have hBt := bit_of hk
  have hkey := keyOf_pf hBt
  unfold pfV at hkey
  have hE : bs.filter (fun r => !decide (pfB r.p = pfB pt)) = bs.eraseIdx i := filter_erase hBt bs i q hi hqp HAS.out.2.2.1 HAS.out.2.2.2
  have hS := sub_strict (fun r => !decide (pfB r.p = pfB pt)) HAS.out.2.1
  have hA2 : ∀ y ∈ bs.filter (fun r => !decide (pfB r.p = pfB pt)), y.p.pk = true := fun y hy => HAS.out.1 y (List.mem_filter.1 hy).1
  have hin : i < bs.length := (List.getElem?_eq_some_iff.1 hi).1
  have HRi := hidP (fun W b D hH => rising_any b nb D _ hH (apart_of hS) hA2 (by omega) W)
  have HU := hidP (fun R hp hs => (sorted_one _ R hp hS hs).trans hE)
  have HLn : Hid ((bs.eraseIdx i).length = nb - 1) := hidP (by rw [List.length_eraseIdx_of_lt hin, HN.out.2])
  clear hi hqp hE hS hA2 hBt hin
  go_enter Tryz.func15, Tryz.ntmps15
  go_wp2_with fail
  have uF := frz2 w 34 (.slice (some ⟨g, 0, none⟩) np np) (.slice (some ⟨h, 0, none⟩) nb nb)
  obtain ⟨u0, u1⟩ := box2 (u := .slice (some ⟨g, 0, none⟩) np np) (v := .slice (some ⟨h, 0, none⟩) nb nb) w 34
  have uB := alloc_below w (.cells #[.slice (some ⟨g, 0, none⟩) np np, .slice (some ⟨h, 0, none⟩) nb nb] 34)
  have uL := alloc_lt w (.cells #[.slice (some ⟨g, 0, none⟩) np np, .slice (some ⟨h, 0, none⟩) nb nb] 34)
  have uS : (w.alloc (.cells #[.slice (some ⟨g, 0, none⟩) np np, .slice (some ⟨h, 0, none⟩) nb nb] 34)).heap.size = w.heap.size + 1 := by simp
  generalize w.alloc (.cells #[.slice (some ⟨g, 0, none⟩) np np, .slice (some ⟨h, 0, none⟩) nb nb] 34) = W1 at *
  obtain ⟨y0, y1, y2, y3⟩ := box4 (p := pt) W1 37
  have yB := alloc_below W1 (.cells #[.bool pt.s, .int .i64 pt.H.toInt, .int .i64 pt.L.toInt, .int .i64 pt.b] 37)
  have yL := alloc_lt W1 (.cells #[.bool pt.s, .int .i64 pt.H.toInt, .int .i64 pt.L.toInt, .int .i64 pt.b] 37)
  have yS : (W1.alloc (.cells #[.bool pt.s, .int .i64 pt.H.toInt, .int .i64 pt.L.toInt, .int .i64 pt.b] 37)).heap.size = W1.heap.size + 1 := by simp
  generalize W1.alloc (.cells #[.bool pt.s, .int .i64 pt.H.toInt, .int .i64 pt.L.toInt, .int .i64 pt.b] 37) = W2 at *
  rw [uS] at y0 y1 y2 y3 yL yS
  have kF := frz2 W2 34 (.slice none 0 0) (.slice none 0 0)
  obtain ⟨k0, k1⟩ := box2 (u := .slice none 0 0) (v := .slice none 0 0) W2 34
  have kB := alloc_below W2 (.cells #[.slice none 0 0, .slice none 0 0] 34)
  have kL := alloc_lt W2 (.cells #[.slice none 0 0, .slice none 0 0] 34)
  have kS : (W2.alloc (.cells #[.slice none 0 0, .slice none 0 0] 34)).heap.size = W2.heap.size + 1 := by simp
  generalize W2.alloc (.cells #[.slice none 0 0, .slice none 0 0] 34) = W3 at *
  rw [yS] at k0 k1 kL kS
  rw [yS] at kF
  have l0 : w.heap.size < W2.heap.size := by omega
  have l1 : w.heap.size + 1 < W2.heap.size := by omega
  have U0 := (kB.cell l0).trans ((yB.cell uL).trans u0)
  have U1 := (kB.cell l0).trans ((yB.cell uL).trans u1)
  have UF : ∀ o, W3.frozen? ⟨w.heap.size, o, none⟩ = false := fun o => (kB.frozen l0).trans ((yB.frozen uL).trans (uF o))
  have Y0 := (kB.cell l1).trans y0
  have Y1 := (kB.cell l1).trans y1
  have Y2 := (kB.cell l1).trans y2
  have Y3 := (kB.cell l1).trans y3
  have acc0 := hidP ((uB.trans (yB.mono uB.size)).trans (kB.mono (Nat.le_trans uB.size yB.size)))
  have UL : w.heap.size < W3.heap.size := by omega
  have YL : w.heap.size + 1 < W3.heap.size := by omega
  have kL3 : w.heap.size + 1 + 1 < W3.heap.size := by omega
  have UL9 := UL
  have kL9 := kL3
  clear uB yB kB uS yS kS u0 u1 y0 y1 y2 y3 uL yL kL uF l0 l1
  refine (HOw.out _ acc0.out).mono ?_
  rintro e w4 ⟨a, c, b, d, rfl, op, ob, hne, hb4⟩
  have pb0_w4 := (hb4.cell UL).trans U0
  have pb1_w4 := (hb4.cell UL).trans U1
  have pbF_w4 : ∀ o, w4.frozen? ⟨w.heap.size, o, none⟩ = false := fun o => (hb4.frozen UL).trans (UF o)
  have pbL_w4 : w.heap.size < w4.heap.size := Nat.lt_of_lt_of_le UL hb4.size
  have at0_w4 := (hb4.cell YL).trans Y0
  have at1_w4 := (hb4.cell YL).trans Y1
  have at2_w4 := (hb4.cell YL).trans Y2
  have at3_w4 := (hb4.cell YL).trans Y3
  have atL_w4 : w.heap.size + 1 < w4.heap.size := Nat.lt_of_lt_of_le YL hb4.size
  have rs0_w4 := (hb4.cell kL3).trans k0
  have rs1_w4 := (hb4.cell kL3).trans k1
  have rsF_w4 : ∀ o, w4.frozen? ⟨w.heap.size + 1 + 1, o, none⟩ = false := fun o => (hb4.frozen kL3).trans (kF o)
  have rsL_w4 : w.heap.size + 1 + 1 < w4.heap.size := Nat.lt_of_lt_of_le kL3 hb4.size
  have acc_w4 := hidP (acc0.out.trans (hb4.mono acc0.out.size))
  have w43c := hb4.size
  have oP_w4 := hidP op
  have oB_w4 := hidP ob
  have HNE := hidP hne
  clear UF U0 U1 UL Y0 Y1 Y2 Y3 YL kF k0 k1 kL3 acc0 hb4 op ob hne
  go_wp2_with fail
  have p0 : ((w4.setCell ⟨w.heap.size, 0, none⟩ (.slice a np c)).setCell ⟨w.heap.size, 1, none⟩ (.slice b nb d)).cell? ⟨w.heap.size, 0, none⟩ = some (.slice a np c) := by simp [go_sem, pb0_w4]
  have p1 : ((w4.setCell ⟨w.heap.size, 0, none⟩ (.slice a np c)).setCell ⟨w.heap.size, 1, none⟩ (.slice b nb d)).cell? ⟨w.heap.size, 1, none⟩ = some (.slice b nb d) := by simp [go_sem, pb1_w4]
  have pF : ∀ o, ((w4.setCell ⟨w.heap.size, 0, none⟩ (.slice a np c)).setCell ⟨w.heap.size, 1, none⟩ (.slice b nb d)).frozen? ⟨w.heap.size, o, none⟩ = false := fun o => by simp [go_sem, pbF_w4 o]
  have q0 : ((w4.setCell ⟨w.heap.size, 0, none⟩ (.slice a np c)).setCell ⟨w.heap.size, 1, none⟩ (.slice b nb d)).cell? ⟨w.heap.size + 1, 0, none⟩ = _ := cell_set2 at0_w4 (by omega)
  have q1 : ((w4.setCell ⟨w.heap.size, 0, none⟩ (.slice a np c)).setCell ⟨w.heap.size, 1, none⟩ (.slice b nb d)).cell? ⟨w.heap.size + 1, 1, none⟩ = _ := cell_set2 at1_w4 (by omega)
  have q2 : ((w4.setCell ⟨w.heap.size, 0, none⟩ (.slice a np c)).setCell ⟨w.heap.size, 1, none⟩ (.slice b nb d)).cell? ⟨w.heap.size + 1, 2, none⟩ = _ := cell_set2 at2_w4 (by omega)
  have q3 : ((w4.setCell ⟨w.heap.size, 0, none⟩ (.slice a np c)).setCell ⟨w.heap.size, 1, none⟩ (.slice b nb d)).cell? ⟨w.heap.size + 1, 3, none⟩ = _ := cell_set2 at3_w4 (by omega)
  have r0 : ((w4.setCell ⟨w.heap.size, 0, none⟩ (.slice a np c)).setCell ⟨w.heap.size, 1, none⟩ (.slice b nb d)).cell? ⟨w.heap.size + 1 + 1, 0, none⟩ = _ := cell_set2 rs0_w4 (by omega)
  have r1 : ((w4.setCell ⟨w.heap.size, 0, none⟩ (.slice a np c)).setCell ⟨w.heap.size, 1, none⟩ (.slice b nb d)).cell? ⟨w.heap.size + 1 + 1, 1, none⟩ = _ := cell_set2 rs1_w4 (by omega)
  have rF : ∀ o, ((w4.setCell ⟨w.heap.size, 0, none⟩ (.slice a np c)).setCell ⟨w.heap.size, 1, none⟩ (.slice b nb d)).frozen? ⟨w.heap.size + 1 + 1, o, none⟩ = false := fun o => frz_set2 (rsF_w4 o) (by omega)
  have oP5 : Hid (OwnG KPl 60 ((w4.setCell ⟨w.heap.size, 0, none⟩ (.slice a np c)).setCell ⟨w.heap.size, 1, none⟩ (.slice b nb d)) W3.heap.size (.slice a np c) ps) := hidP (OwnG.set2 oP_w4.out UL9)
  have oB5 : Hid (OwnG KBk 62 ((w4.setCell ⟨w.heap.size, 0, none⟩ (.slice a np c)).setCell ⟨w.heap.size, 1, none⟩ (.slice b nb d)) W3.heap.size (.slice b nb d) bs) := hidP (OwnG.set2 oB_w4.out UL9)
  have acc5 : Hid (Below w.heap.size w ((w4.setCell ⟨w.heap.size, 0, none⟩ (.slice a np c)).setCell ⟨w.heap.size, 1, none⟩ (.slice b nb d))) := hidP (below_set2 acc_w4.out (Nat.le_refl _))
  have sL5 : ((w4.setCell ⟨w.heap.size, 0, none⟩ (.slice a np c)).setCell ⟨w.heap.size, 1, none⟩ (.slice b nb d)).heap.size = w4.heap.size := by simp
  generalize ((w4.setCell ⟨w.heap.size, 0, none⟩ (.slice a np c)).setCell ⟨w.heap.size, 1, none⟩ (.slice b nb d)) = W5 at *
  have pL5 : w.heap.size < W5.heap.size := by have := pbL_w4; omega
  have qL5 : w.heap.size + 1 < W5.heap.size := by have := atL_w4; omega
  have rL5 : w.heap.size + 1 + 1 < W5.heap.size := by have := rsL_w4; omega
  have w53 : W3.heap.size ≤ W5.heap.size := by omega
  clear pb0_w4 pb1_w4 pbL_w4 at0_w4 at1_w4 at2_w4 at3_w4 atL_w4 rs0_w4 rs1_w4 rsL_w4 pbF_w4 rsF_w4 oP_w4 oB_w4 acc_w4 sL5 w43c
  refine (HPO.out _ a c b d oP5.out.row oB5.out.row).mono ?_
  rintro e w6 ⟨rfl, hb6⟩
  have pb0_w6 := (hb6.cell pL5).trans p0
  have pb1_w6 := (hb6.cell pL5).trans p1
  have pbF_w6 : ∀ o, w6.frozen? ⟨w.heap.size, o, none⟩ = false := fun o => (hb6.frozen pL5).trans (pF o)
  have pbL_w6 : w.heap.size < w6.heap.size := Nat.lt_of_lt_of_le pL5 hb6.size
  have at0_w6 := (hb6.cell qL5).trans q0
  have at1_w6 := (hb6.cell qL5).trans q1
  have at2_w6 := (hb6.cell qL5).trans q2
  have at3_w6 := (hb6.cell qL5).trans q3
  have atL_w6 : w.heap.size + 1 < w6.heap.size := Nat.lt_of_lt_of_le qL5 hb6.size
  have rs0_w6 := (hb6.cell rL5).trans r0
  have rs1_w6 := (hb6.cell rL5).trans r1
  have rsF_w6 : ∀ o, w6.frozen? ⟨w.heap.size + 1 + 1, o, none⟩ = false := fun o => (hb6.frozen rL5).trans (rF o)
  have rsL_w6 : w.heap.size + 1 + 1 < w6.heap.size := Nat.lt_of_lt_of_le rL5 hb6.size
  have oP_w6 := hidP (OwnG.later oP5.out hb6)
  have oB_w6 := hidP (OwnG.later oB5.out hb6)
  have acc_w6 := hidP (acc5.out.trans (hb6.mono acc5.out.size))
  have w63 := Nat.le_trans w53 hb6.size
  clear pF p0 p1 pL5 q0 q1 q2 q3 qL5 rF r0 r1 rL5 oP5 oB5 acc5 hb6 w53
  go_wp2_with fail
  refine (HPk.out _).mono ?_
  rintro e w7 ⟨rfl, hb7⟩
  have pb0_w7 := (hb7.cell pbL_w6).trans pb0_w6
  have pb1_w7 := (hb7.cell pbL_w6).trans pb1_w6
  have pbF_w7 : ∀ o, w7.frozen? ⟨w.heap.size, o, none⟩ = false := fun o => (hb7.frozen pbL_w6).trans (pbF_w6 o)
  have pbL_w7 : w.heap.size < w7.heap.size := Nat.lt_of_lt_of_le pbL_w6 hb7.size
  have at0_w7 := (hb7.cell atL_w6).trans at0_w6
  have at1_w7 := (hb7.cell atL_w6).trans at1_w6
  have at2_w7 := (hb7.cell atL_w6).trans at2_w6
  have at3_w7 := (hb7.cell atL_w6).trans at3_w6
  have atL_w7 : w.heap.size + 1 < w7.heap.size := Nat.lt_of_lt_of_le atL_w6 hb7.size
  have rs0_w7 := (hb7.cell rsL_w6).trans rs0_w6
  have rs1_w7 := (hb7.cell rsL_w6).trans rs1_w6
  have rsF_w7 : ∀ o, w7.frozen? ⟨w.heap.size + 1 + 1, o, none⟩ = false := fun o => (hb7.frozen rsL_w6).trans (rsF_w6 o)
  have rsL_w7 : w.heap.size + 1 + 1 < w7.heap.size := Nat.lt_of_lt_of_le rsL_w6 hb7.size
  have oP_w7 := hidP (OwnG.later oP_w6.out hb7)
  have oB_w7 := hidP (OwnG.later oB_w6.out hb7)
  have acc_w7 := hidP (acc_w6.out.trans (hb7.mono acc_w6.out.size))
  have w73 := Nat.le_trans w63 hb7.size
  clear pbF_w6 pb0_w6 pb1_w6 pbL_w6 at0_w6 at1_w6 at2_w6 at3_w6 atL_w6 rsF_w6 rs0_w6 rs1_w6 rsL_w6 oP_w6 oB_w6 acc_w6 hb7 w63
  go_wp2_with fail
  refine (HOO.out _).mono ?_
  rintro e w8 ⟨rfl, h8⟩
  subst h8
  have HLP := hidP (fun k hk => (OwnG.lt oP_w7.out k hk).2)
  go_wp2_with fail
  refine (HBy.out _ b d oB_w7.out.row).mono ?_
  rintro e w9 ⟨rfl, ⟨D, hm, hH⟩, hb9⟩
  have pb0_w9 := (hb9.cell pbL_w7).trans pb0_w7
  have pb1_w9 := (hb9.cell pbL_w7).trans pb1_w7
  have pbF_w9 : ∀ o, w9.frozen? ⟨w.heap.size, o, none⟩ = false := fun o => (hb9.frozen pbL_w7).trans (pbF_w7 o)
  have pbL_w9 : w.heap.size < w9.heap.size := Nat.lt_of_lt_of_le pbL_w7 hb9.size
  have at0_w9 := (hb9.cell atL_w7).trans at0_w7
  have at1_w9 := (hb9.cell atL_w7).trans at1_w7
  have at2_w9 := (hb9.cell atL_w7).trans at2_w7
  have at3_w9 := (hb9.cell atL_w7).trans at3_w7
  have atL_w9 : w.heap.size + 1 < w9.heap.size := Nat.lt_of_lt_of_le atL_w7 hb9.size
  have rs0_w9 := (hb9.cell rsL_w7).trans rs0_w7
  have rs1_w9 := (hb9.cell rsL_w7).trans rs1_w7
  have rsF_w9 : ∀ o, w9.frozen? ⟨w.heap.size + 1 + 1, o, none⟩ = false := fun o => (hb9.frozen rsL_w7).trans (rsF_w7 o)
  have rsL_w9 : w.heap.size + 1 + 1 < w9.heap.size := Nat.lt_of_lt_of_le rsL_w7 hb9.size
  have oP_w9 := hidP (OwnG.later oP_w7.out hb9)
  have oB_w9 := hidP (OwnG.later oB_w7.out hb9)
  have acc_w9 := hidP (acc_w7.out.trans (hb9.mono acc_w7.out.size))
  have HM := hidP (And.intro hm hH)
  have sz9 := hb9.size
  have lm := hm.lt
  clear pbF_w7 pb0_w7 pb1_w7 pbL_w7 at0_w7 at1_w7 at2_w7 at3_w7 atL_w7 rsF_w7 rs0_w7 rs1_w7 rsL_w7 oP_w7 oB_w7 acc_w7 hb9 hm hH
  go_upto_region 6 with (at_lookup; refine wpList_lookB _ rfl (.tmp 31) (.tmp 32) rfl w8.heap.size pt q HM.out.2 HQ.out.1 HQ.out.2 rfl HM.out.1 rfl ?_)
  obtain ⟨v0, v1, v2, v3, v4⟩ := boxBk (q := q) w9 62
  have vB := alloc_below w9 (.cells #[.bool q.p.s, .int .i64 q.p.H.toInt, .int .i64 q.p.L.toInt, .int .i64 q.p.b, .string q.t] 62)
  have vL := alloc_lt w9 (.cells #[.bool q.p.s, .int .i64 q.p.H.toInt, .int .i64 q.p.L.toInt, .int .i64 q.p.b, .string q.t] 62)
  have vS : (w9.alloc (.cells #[.bool q.p.s, .int .i64 q.p.H.toInt, .int .i64 q.p.L.toInt, .int .i64 q.p.b, .string q.t] 62)).heap.size = w9.heap.size + 1 := by simp
  generalize w9.alloc (.cells #[.bool q.p.s, .int .i64 q.p.H.toInt, .int .i64 q.p.L.toInt, .int .i64 q.p.b, .string q.t] 62) = X1 at *
  have hb10 := vB
  have HM1 := hidP (And.intro (owns_below HM.out.1 vB lm) HM.out.2)
  have pb0_X1 := (hb10.cell pbL_w9).trans pb0_w9
  have pb1_X1 := (hb10.cell pbL_w9).trans pb1_w9
  have pbF_X1 : ∀ o, X1.frozen? ⟨w.heap.size, o, none⟩ = false := fun o => (hb10.frozen pbL_w9).trans (pbF_w9 o)
  have pbL_X1 : w.heap.size < X1.heap.size := Nat.lt_of_lt_of_le pbL_w9 hb10.size
  have at0_X1 := (hb10.cell atL_w9).trans at0_w9
  have at1_X1 := (hb10.cell atL_w9).trans at1_w9
  have at2_X1 := (hb10.cell atL_w9).trans at2_w9
  have at3_X1 := (hb10.cell atL_w9).trans at3_w9
  have atL_X1 : w.heap.size + 1 < X1.heap.size := Nat.lt_of_lt_of_le atL_w9 hb10.size
  have rs0_X1 := (hb10.cell rsL_w9).trans rs0_w9
  have rs1_X1 := (hb10.cell rsL_w9).trans rs1_w9
  have rsF_X1 : ∀ o, X1.frozen? ⟨w.heap.size + 1 + 1, o, none⟩ = false := fun o => (hb10.frozen rsL_w9).trans (rsF_w9 o)
  have rsL_X1 : w.heap.size + 1 + 1 < X1.heap.size := Nat.lt_of_lt_of_le rsL_w9 hb10.size
  have oP_X1 := hidP (OwnG.later oP_w9.out hb10)
  have oB_X1 := hidP (OwnG.later oB_w9.out hb10)
  have acc_X1 := hidP (acc_w9.out.trans (hb10.mono acc_w9.out.size))
  clear pbF_w9 pb0_w9 pb1_w9 pbL_w9 at0_w9 at1_w9 at2_w9 at3_w9 atL_w9 rsF_w9 rs0_w9 rs1_w9 rsL_w9 oP_w9 oB_w9 acc_w9 hb10 vB HM
  go_upto_region 9 with (at_delete; refine wpList_delete_own _ rfl (.tmp 45) (.tmp 46) 67 37 rfl 62 Tryz.keyPf Tryz.underlying67 rdB w8.heap.size nb D rfl HM1.out.1 _ _ rfl hkey ?_; intro wA hownA hturnA)
  have hg := hturnA.grown
  have szA := hg.size
  have pb0_wA := (World.cell?_of_block (hg.block (w.heap.size) pbL_X1 (fun e => by simp at e; omega))).trans pb0_X1
  have pb1_wA := (World.cell?_of_block (hg.block (w.heap.size) pbL_X1 (fun e => by simp at e; omega))).trans pb1_X1
  have pbF_wA : ∀ o, wA.frozen? ⟨w.heap.size, o, none⟩ = false := fun o => (World.frozen?_of_block (hg.block (w.heap.size) pbL_X1 (fun e => by simp at e; omega))).trans (pbF_X1 o)
  have pbL_wA : w.heap.size < wA.heap.size := Nat.lt_of_lt_of_le pbL_X1 hg.size
  have rs0_wA := (World.cell?_of_block (hg.block (w.heap.size + 1 + 1) rsL_X1 (fun e => by simp at e; omega))).trans rs0_X1
  have rs1_wA := (World.cell?_of_block (hg.block (w.heap.size + 1 + 1) rsL_X1 (fun e => by simp at e; omega))).trans rs1_X1
  have rsF_wA : ∀ o, wA.frozen? ⟨w.heap.size + 1 + 1, o, none⟩ = false := fun o => (World.frozen?_of_block (hg.block (w.heap.size + 1 + 1) rsL_X1 (fun e => by simp at e; omega))).trans (rsF_X1 o)
  have rsL_wA : w.heap.size + 1 + 1 < wA.heap.size := Nat.lt_of_lt_of_le rsL_X1 hg.size
  have oP_wA := hidP (OwnG.grown oP_X1.out hg (fun k hk e => by have := HLP.out k hk; have e2 : w8.heap.size = k := Option.some.inj e; omega))
  have acc_wA := hidP (acc_X1.out.grown hg acc_X1.out.size (fun k e => by have e2 : w8.heap.size = k := Option.some.inj e; omega))
  have HA := hidP hownA
  have HH : Hid (HasB (D.del (.string (pfB pt))) (bs.filter (fun r => !decide (pfB r.p = pfB pt)))) := hidP (by have h9 := HasB.del HM1.out.2 q; rw [HQ.out.2] at h9; exact h9)
  have lmA : w8.heap.size < wA.heap.size := hownA.lt
  clear pb0_X1 pb1_X1 pbL_X1 at0_X1 at1_X1 at2_X1 at3_X1 atL_X1 rs0_X1 rs1_X1 rsL_X1 pbF_X1 rsF_X1 oP_X1 oB_X1 acc_X1 hg hturnA hownA HM1
  go_wp2_with fail
  refine (HRi.out wA w8.heap.size (D.del (.string (pfB pt))) HH.out HA.out).mono ?_
  rintro e wB ⟨aB, n', cB, ys, rfl, hn, hp, hs, ho', hbB⟩
  have hys := HU.out ys hp hs
  subst hys
  rw [HLn.out] at hn
  subst hn
  have HLo := hidP (fun k hk => (OwnG.lt ho' k hk).1)
  have oY := hidP ho'
  have pb0_wB := (hbB.cell pbL_wA).trans pb0_wA
  have pb1_wB := (hbB.cell pbL_wA).trans pb1_wA
  have pbF_wB : ∀ o, wB.frozen? ⟨w.heap.size, o, none⟩ = false := fun o => (hbB.frozen pbL_wA).trans (pbF_wA o)
  have pbL_wB : w.heap.size < wB.heap.size := Nat.lt_of_lt_of_le pbL_wA hbB.size
  have rs0_wB := (hbB.cell rsL_wA).trans rs0_wA
  have rs1_wB := (hbB.cell rsL_wA).trans rs1_wA
  have rsF_wB : ∀ o, wB.frozen? ⟨w.heap.size + 1 + 1, o, none⟩ = false := fun o => (hbB.frozen rsL_wA).trans (rsF_wA o)
  have rsL_wB : w.heap.size + 1 + 1 < wB.heap.size := Nat.lt_of_lt_of_le rsL_wA hbB.size
  have oP_wB := hidP (OwnG.later oP_wA.out hbB)
  have acc_wB := hidP (acc_wA.out.trans (hbB.mono acc_wA.out.size))
  clear pbF_wA pb0_wA pb1_wA pbL_wA rsF_wA rs0_wA rs1_wA rsL_wA oP_wA acc_wA hbB hp hs ho'
  go_wp2_with fail
  refine bodyPost_ret (v := .tuple #[.agg #[.slice a np c, .slice aB (nb - 1) cB], .int .i64 0]) (by simp [results, Tryz.results15, go_sem, rs0_wB, rs1_wB]) rfl ⟨_, _, _, _, rfl, (OwnG.set2 (OwnG.set1b oP_wB.out UL9) kL9).mono (Nat.le_of_lt UL9), (OwnG.set2 (OwnG.set1b oY.out (by omega)) (by omega)).mono (by omega), (fun k h1 h2 => by have e1 := HLP.out k h1; have e2 := HLo.out k h2; omega), below_set2 (below_set1b acc_wB.out (Nat.le_refl _)) (by omega)⟩

end Go.Proofs.YtmbmekcppmbokaaGreat

/-
  The specification's l5Copy: a plan of the same things in rows of its own.
-/
namespace Go.Proofs.YtmbmekcppmbokaaGreat
open Go.RowKit

theorem OwnG.drewG {α : Type} {K : Kd α} {t : TypeId} {w : World} {B : Nat} {v : Value} {ps : List α} (h : OwnG K t w B v ps) : OwnG K t w.drew B v ps := OwnG.later h (Below.refl _ _).drew
theorem ob_some (p n c : Nat) : (Value.slice (some ⟨p, 0, none⟩) n c).ownBlock = some p := rfl

set_option maxRecDepth 10000 in
set_option maxHeartbeats 4000000 in
theorem l5Copy_any (ap : Option Addr) (np cp : Nat) (ab : Option Addr) (nb cb : Nat) (ps : List Pl) (bs : List Bk) (w : World) (hnp : np = ps.length) (hnb : nb = bs.length) (hP : RowG KPl w ap ps) (hK : RowG KBk w ab bs) (hcp : ap = none → cp = 0) (hcb : ab = none → cb = 0) (hl : np ≤ 1048576) (hl' : nb ≤ 1048576) :
    Calls Tryz.prog 18 #[.agg #[.slice ap np cp, .slice ab nb cb]] w fun e w' => ∃ a c b d, e = .returned (.agg #[.slice a np c, .slice b nb d]) ∧ OwnG KPl 60 w' w.heap.size (.slice a np c) ps ∧ OwnG KBk 62 w' w.heap.size (.slice b nb d) bs ∧ (∀ k, (Value.slice a np c).ownBlock = some k → (Value.slice b nb d).ownBlock ≠ some k) ∧ Below w.heap.size w w' := by
  have HR := hidP (And.intro hP hK)
  have HN := hidP (And.intro hnp hnb)
  have HC := hidP (And.intro hcp hcb)
  clear hP hK hnp hnb hcp hcb
  go_enter Tryz.func18, Tryz.ntmps18
  go_wp2_with fail
  obtain ⟨u0, u1⟩ := box2 (u := .slice ap np cp) (v := .slice ab nb cb) w 34
  have uB := alloc_below w (.cells #[.slice ap np cp, .slice ab nb cb] 34)
  have uL := alloc_lt w (.cells #[.slice ap np cp, .slice ab nb cb] 34)
  have uS : (w.alloc (.cells #[.slice ap np cp, .slice ab nb cb] 34)).heap.size = w.heap.size + 1 := by simp
  generalize w.alloc (.cells #[.slice ap np cp, .slice ab nb cb] 34) = W1 at *
  have yF := frz2 W1 34 (.slice none 0 0) (.slice none 0 0)
  obtain ⟨y0, y1⟩ := box2 (u := .slice none 0 0) (v := .slice none 0 0) W1 34
  have yB := alloc_below W1 (.cells #[.slice none 0 0, .slice none 0 0] 34)
  have yL := alloc_lt W1 (.cells #[.slice none 0 0, .slice none 0 0] 34)
  have yS : (W1.alloc (.cells #[.slice none 0 0, .slice none 0 0] 34)).heap.size = W1.heap.size + 1 := by simp
  generalize W1.alloc (.cells #[.slice none 0 0, .slice none 0 0] 34) = W2 at *
  rw [uS] at y0 y1 yL yS
  rw [uS] at yF
  have HU := hidP uB
  have HY := hidP yB
  have hs1 : W1.heap.size = w.heap.size + 1 := uS
  have hs2 : W2.heap.size = w.heap.size + 1 + 1 := yS
  have HS12 := hidP (And.intro hs1 hs2)
  clear uB yB uS yS hs1 hs2
  have HSx : Hid (∀ x, Below W1.heap.size W1 x → (x.cell? ⟨w.heap.size, 0, none⟩ = some (.slice ap np cp) ∧ x.cell? ⟨w.heap.size, 1, none⟩ = some (.slice ab nb cb) ∧ Below W1.heap.size W1 x)) := hidP fun x h =>
    ⟨(h.cell uL).trans u0, (h.cell uL).trans u1, h⟩
  refine wp_region_held_drew (S := (fun x => x.cell? ⟨w.heap.size, 0, none⟩ = some (.slice ap np cp) ∧ x.cell? ⟨w.heap.size, 1, none⟩ = some (.slice ab nb cb) ∧ Below W1.heap.size W1 x)) (by kernel_rfl) ?_ (fun hHeld => ?_)
  · try dsimp only
    exact HSx.out _ HY.out.drew
  refine wpAnyH_take (i := 1) (oi := ⟨some 4, _, _, _, _, _⟩) (v := ?_) rfl (by kernel_rfl) (by kernel_rfl) (by kernel_rfl) (fun _ _ _ h => h) (Or.inl ⟨by rfl, ?_⟩) (by assumption) ?_
  rotate_left
  · intro w hSw
    try dsimp only at hSw
    go_simp
    try with_reducible rfl
  simp only [Act.put, List.setIfInBounds_toArray, List.set_cons_zero, List.set_cons_succ]
  refine wpAnyH_take (i := 2) (oi := ⟨some 5, _, _, _, _, _⟩) (v := ?_) rfl (by kernel_rfl) (by kernel_rfl) (by kernel_rfl) (fun _ _ _ h => h) (Or.inl ⟨by rfl, ?_⟩) (by assumption) ?_
  rotate_left
  · intro w hSw
    try dsimp only at hSw
    go_simp
    try with_reducible rfl
  simp only [Act.put, List.setIfInBounds_toArray, List.set_cons_zero, List.set_cons_succ]
  refine wpAnyH_take (i := 5) (oi := ⟨some 8, _, _, _, _, _⟩) (v := ?_) rfl (by kernel_rfl) (by kernel_rfl) (by kernel_rfl) (fun _ _ _ h => h) (Or.inl ⟨by rfl, ?_⟩) (by assumption) ?_
  rotate_left
  · intro w hSw
    try dsimp only at hSw
    go_simp
    try with_reducible rfl
  simp only [Act.put, List.setIfInBounds_toArray, List.set_cons_zero, List.set_cons_succ]
  refine wpAnyH_take (i := 6) (oi := ⟨some 9, _, _, _, _, _⟩) (v := ?_) rfl (by kernel_rfl) (by kernel_rfl) (by kernel_rfl) (fun _ _ _ h => h) (Or.inl ⟨by rfl, ?_⟩) (by assumption) ?_
  rotate_left
  · intro w hSw
    try dsimp only at hSw
    go_simp
    try with_reducible rfl
  simp only [Act.put, List.setIfInBounds_toArray, List.set_cons_zero, List.set_cons_succ]
  refine wpAnyH_ready (rs := [0, 4]) (by kernel_rfl) (by simp) ?_
  refine AllReadyH.cons rfl (fun K hK => ?_) (AllReadyH.cons rfl (fun K hK => ?_) AllReadyH.nil)
  · go_simp
    have z3 := own_zeroG KPl W2 W2.heap.size 60 (Nat.le_refl _)
    have zb3 := alloc_below W2 (.cells #[] 60)
    have zs3 : W2.heap.size + 1 ≤ (W2.alloc (.cells #[] 60)).heap.size := by simp
    have z3 := OwnG.drewG z3
    have zb3 := zb3.drew
    have zs3 : W2.heap.size + 1 ≤ (W2.alloc (.cells #[] 60)).drew.heap.size := zs3
    have bel3 := HY.out.trans (zb3.mono HY.out.size)
    generalize (W2.alloc (.cells #[] 60)).drew = w3 at *
    have wb3 := zb3
    refine hK.out _ _ ?_ (fun hHeld => ?_)
    · try dsimp only
      exact HSx.out _ bel3
    clear hK K
    refine wpAnyH_ready (rs := [3, 4]) (by kernel_rfl) (by simp) ?_
    refine AllReadyH.cons rfl (fun K hK => ?_) (AllReadyH.cons rfl (fun K hK => ?_) AllReadyH.nil)
    · have hbs4 : W2.heap.size ≤ w3.heap.size := by omega
      refine step_appG Tryz.tyPl _ rfl (.tmp 3) (.tmp 5) 31 rfl (W2.heap.size) (some ⟨W2.heap.size, 0, none⟩) 0 0 np [] ps (.slice ap np cp) rfl rfl HN.out.1 z3 rfl (src_rowG Tryz.tyPl.1 np cp (by show 0 < 5; omega) HN.out.1 (HR.out.1.later (HU.out.trans (bel3.mono HU.out.size))) HC.out.1) (by omega) hbs4 ?_
      intro a4 c4 w4 ho4 hg4 ht4
      have zs4 := hg4.size
      have bel4 := Below.grown bel3 hg4 bel3.size (fun j hj => by rw [ob_some, Option.some.injEq] at hj; have := HS12.out; omega)
      rw [Nat.zero_add, List.nil_append] at ho4
      have lt4 := fun j hj => (OwnG.lt ho4 j hj).2
      have wb4 := Below.grown wb3 hg4 wb3.size (fun j hj => by rw [ob_some, Option.some.injEq] at hj; omega)
      refine hK.out _ _ ?_ (fun hHeld => ?_)
      · try dsimp only
        exact HSx.out _ bel4
      clear hK K
      refine wpAnyH_ready (rs := [4]) (by kernel_rfl) (by simp) ?_
      refine AllReadyH.cons rfl (fun K hK => ?_) AllReadyH.nil
      go_simp
      have z5 := own_zeroG KBk w4 w4.heap.size 62 (Nat.le_refl _)
      have zb5 := alloc_below w4 (.cells #[] 62)
      have zs5 : w4.heap.size + 1 ≤ (w4.alloc (.cells #[] 62)).heap.size := by simp
      have bel5 := bel4.trans (zb5.mono bel4.size)
      generalize w4.alloc (.cells #[] 62) = w5 at *
      have oP5 := OwnG.later ho4 zb5
      have wb5 := wb4.trans (zb5.mono wb4.size)
      refine hK.out _ _ ?_ (fun hHeld => ?_)
      · try dsimp only
        exact HSx.out _ bel5
      clear hK K
      refine wpAnyH_ready (rs := [7]) (by kernel_rfl) (by simp) ?_
      refine AllReadyH.cons rfl (fun K hK => ?_) AllReadyH.nil
      have hbs6 : w4.heap.size ≤ w5.heap.size := by omega
      refine step_appG Tryz.tyBk _ rfl (.tmp 7) (.tmp 9) 32 rfl (w4.heap.size) (some ⟨w4.heap.size, 0, none⟩) 0 0 nb [] bs (.slice ab nb cb) rfl rfl HN.out.2 z5 rfl (src_rowG Tryz.tyBk.1 nb cb (by show 0 < 5; omega) HN.out.2 (HR.out.2.later (HU.out.trans (bel5.mono HU.out.size))) HC.out.2) (by omega) hbs6 ?_
      intro a6 c6 w6 ho6 hg6 ht6
      have zs6 := hg6.size
      have bel6 := Below.grown bel5 hg6 bel5.size (fun j hj => by rw [ob_some, Option.some.injEq] at hj; have := HS12.out; omega)
      have oP6 := OwnG.grown oP5 hg6 (fun j hj he => by have h7 := lt4 j hj; rw [ob_some, Option.some.injEq] at he; rcases ht4 with rfl | rfl <;> rw [ob_some, Option.some.injEq] at hj <;> omega)
      rw [Nat.zero_add, List.nil_append] at ho6
      have lt6 := fun j hj => (OwnG.lt ho6 j hj).2
      have wb6 := Below.grown wb5 hg6 wb5.size (fun j hj => by rw [ob_some, Option.some.injEq] at hj; omega)
      refine hK.out _ _ ?_ (fun hHeld => ?_)
      · try dsimp only
        exact HSx.out _ bel6
      clear hK K
      refine wpAnyH_take (i := 8) (oi := ⟨some 11, _, _, _, _, _⟩) (v := ?_) rfl (by kernel_rfl) (by kernel_rfl) (by kernel_rfl) (fun _ _ _ h => h) (Or.inl ⟨by rfl, ?_⟩) (by assumption) ?_
      rotate_left
      · intro w hSw
        try dsimp only at hSw
        go_simp
        try with_reducible rfl
      simp only [Act.put, List.setIfInBounds_toArray]
      refine wpAnyH_ready (rs := [9]) (by kernel_rfl) (by simp) ?_
      refine AllReadyH.cons rfl (fun K hK => ?_) AllReadyH.nil
      have zz : w.heap.size + 1 < w6.heap.size := by have := HS12.out; omega
      have r0 := (wb6.cell yL).trans y0
      have r1 := (wb6.cell yL).trans y1
      have rF : ∀ o, w6.frozen? ⟨w.heap.size + 1, o, none⟩ = false := fun o => (wb6.frozen yL).trans (yF o)
      go_simp
      refine hK.out _ _ ?_ (fun hHeld => ?_)
      · try dsimp only
        refine HSx.out _ ?_
        repeat (with_reducible refine Below.setCell ?_ ?_ _; rotate_left; (focus (have := HS12.out; simp; omega)))
        exact bel6
      clear hK K
      refine wpAnyH_done (by kernel_rfl) ?_ _
      clear hHeld
      go_wp2_with fail
      refine bodyPost_ret (v := .agg #[.slice a4 np c4, .slice a6 nb c6]) (by simp [results, Tryz.results18, go_sem, r0, r1]) rfl ⟨a4, c4, a6, c6, rfl, ?_, ?_, ?_, ?_⟩
      · have o1 := OwnG.grown oP6 (grown_cellG w6 (w.heap.size + 1) 0 (.slice a4 np c4)) (fun k hk e => by have h5 := (OwnG.lt oP6 k hk).1; have h6 := HS12.out; simp at e; omega)
        have o2 := OwnG.grown o1 (grown_cellG _ (w.heap.size + 1) 1 (.slice a6 nb c6)) (fun k hk e => by have h5 := (OwnG.lt oP6 k hk).1; have h6 := HS12.out; simp at e; omega)
        exact o2.mono (by have := HS12.out; omega)
      · have o1 := OwnG.grown ho6 (grown_cellG w6 (w.heap.size + 1) 0 (.slice a4 np c4)) (fun k hk e => by have h5 := (OwnG.lt ho6 k hk).1; have h6 := HS12.out; simp at e; omega)
        have o2 := OwnG.grown o1 (grown_cellG _ (w.heap.size + 1) 1 (.slice a6 nb c6)) (fun k hk e => by have h5 := (OwnG.lt ho6 k hk).1; have h6 := HS12.out; simp at e; omega)
        exact o2.mono (by have := HS12.out; omega)
      · intro k h1 h2
        have h7 := lt4 k h1
        have h8 := lt6 k h2
        rcases ht4 with rfl | rfl <;> rcases ht6 with rfl | rfl <;> rw [ob_some, Option.some.injEq] at h1 h2 <;> omega
      · refine HU.out.trans (Below.mono ?_ HU.out.size)
        repeat (with_reducible refine Below.setCell ?_ ?_ _; rotate_left; (focus (have := HS12.out; simp; omega)))
        exact bel6
    · go_simp
      have z4 := own_zeroG KBk w3 w3.heap.size 62 (Nat.le_refl _)
      have zb4 := alloc_below w3 (.cells #[] 62)
      have zs4 : w3.heap.size + 1 ≤ (w3.alloc (.cells #[] 62)).heap.size := by simp
      have bel4 := bel3.trans (zb4.mono bel3.size)
      generalize w3.alloc (.cells #[] 62) = w4 at *
      have oP4 := OwnG.later z3 zb4
      have wb4 := wb3.trans (zb4.mono wb3.size)
      refine hK.out _ _ ?_ (fun hHeld => ?_)
      · try dsimp only
        exact HSx.out _ bel4
      clear hK K
      refine wpAnyH_ready (rs := [3]) (by kernel_rfl) (by simp) ?_
      refine AllReadyH.cons rfl (fun K hK => ?_) AllReadyH.nil
      have hbs5 : W2.heap.size ≤ w4.heap.size := by omega
      refine step_appG Tryz.tyPl _ rfl (.tmp 3) (.tmp 5) 31 rfl (W2.heap.size) (some ⟨W2.heap.size, 0, none⟩) 0 0 np [] ps (.slice ap np cp) rfl rfl HN.out.1 oP4 rfl (src_rowG Tryz.tyPl.1 np cp (by show 0 < 5; omega) HN.out.1 (HR.out.1.later (HU.out.trans (bel4.mono HU.out.size))) HC.out.1) (by omega) hbs5 ?_
      intro a5 c5 w5 ho5 hg5 ht5
      have zs5 := hg5.size
      have bel5 := Below.grown bel4 hg5 bel4.size (fun j hj => by rw [ob_some, Option.some.injEq] at hj; have := HS12.out; omega)
      have oB5 := OwnG.grown z4 hg5 (fun j hj he => by rw [ob_some, Option.some.injEq] at hj he; omega)
      rw [Nat.zero_add, List.nil_append] at ho5
      have lt5 := fun j hj => (OwnG.lt ho5 j hj).2
      have wb5 := Below.grown wb4 hg5 wb4.size (fun j hj => by rw [ob_some, Option.some.injEq] at hj; omega)
      refine hK.out _ _ ?_ (fun hHeld => ?_)
      · try dsimp only
        exact HSx.out _ bel5
      clear hK K
      refine wpAnyH_ready (rs := [7]) (by kernel_rfl) (by simp) ?_
      refine AllReadyH.cons rfl (fun K hK => ?_) AllReadyH.nil
      have hbs6 : w3.heap.size ≤ w5.heap.size := by omega
      refine step_appG Tryz.tyBk _ rfl (.tmp 7) (.tmp 9) 32 rfl (w3.heap.size) (some ⟨w3.heap.size, 0, none⟩) 0 0 nb [] bs (.slice ab nb cb) rfl rfl HN.out.2 oB5 rfl (src_rowG Tryz.tyBk.1 nb cb (by show 0 < 5; omega) HN.out.2 (HR.out.2.later (HU.out.trans (bel5.mono HU.out.size))) HC.out.2) (by omega) hbs6 ?_
      intro a6 c6 w6 ho6 hg6 ht6
      have zs6 := hg6.size
      have bel6 := Below.grown bel5 hg6 bel5.size (fun j hj => by rw [ob_some, Option.some.injEq] at hj; have := HS12.out; omega)
      have oP6 := OwnG.grown ho5 hg6 (fun j hj he => by have h7 := lt5 j hj; rw [ob_some, Option.some.injEq] at he; rcases ht5 with rfl | rfl <;> rw [ob_some, Option.some.injEq] at hj <;> omega)
      rw [Nat.zero_add, List.nil_append] at ho6
      have lt6 := fun j hj => (OwnG.lt ho6 j hj).2
      have wb6 := Below.grown wb5 hg6 wb5.size (fun j hj => by rw [ob_some, Option.some.injEq] at hj; omega)
      refine hK.out _ _ ?_ (fun hHeld => ?_)
      · try dsimp only
        exact HSx.out _ bel6
      clear hK K
      refine wpAnyH_take (i := 8) (oi := ⟨some 11, _, _, _, _, _⟩) (v := ?_) rfl (by kernel_rfl) (by kernel_rfl) (by kernel_rfl) (fun _ _ _ h => h) (Or.inl ⟨by rfl, ?_⟩) (by assumption) ?_
      rotate_left
      · intro w hSw
        try dsimp only at hSw
        go_simp
        try with_reducible rfl
      simp only [Act.put, List.setIfInBounds_toArray]
      refine wpAnyH_ready (rs := [9]) (by kernel_rfl) (by simp) ?_
      refine AllReadyH.cons rfl (fun K hK => ?_) AllReadyH.nil
      have zz : w.heap.size + 1 < w6.heap.size := by have := HS12.out; omega
      have r0 := (wb6.cell yL).trans y0
      have r1 := (wb6.cell yL).trans y1
      have rF : ∀ o, w6.frozen? ⟨w.heap.size + 1, o, none⟩ = false := fun o => (wb6.frozen yL).trans (yF o)
      go_simp
      refine hK.out _ _ ?_ (fun hHeld => ?_)
      · try dsimp only
        refine HSx.out _ ?_
        repeat (with_reducible refine Below.setCell ?_ ?_ _; rotate_left; (focus (have := HS12.out; simp; omega)))
        exact bel6
      clear hK K
      refine wpAnyH_done (by kernel_rfl) ?_ _
      clear hHeld
      go_wp2_with fail
      refine bodyPost_ret (v := .agg #[.slice a5 np c5, .slice a6 nb c6]) (by simp [results, Tryz.results18, go_sem, r0, r1]) rfl ⟨a5, c5, a6, c6, rfl, ?_, ?_, ?_, ?_⟩
      · have o1 := OwnG.grown oP6 (grown_cellG w6 (w.heap.size + 1) 0 (.slice a5 np c5)) (fun k hk e => by have h5 := (OwnG.lt oP6 k hk).1; have h6 := HS12.out; simp at e; omega)
        have o2 := OwnG.grown o1 (grown_cellG _ (w.heap.size + 1) 1 (.slice a6 nb c6)) (fun k hk e => by have h5 := (OwnG.lt oP6 k hk).1; have h6 := HS12.out; simp at e; omega)
        exact o2.mono (by have := HS12.out; omega)
      · have o1 := OwnG.grown ho6 (grown_cellG w6 (w.heap.size + 1) 0 (.slice a5 np c5)) (fun k hk e => by have h5 := (OwnG.lt ho6 k hk).1; have h6 := HS12.out; simp at e; omega)
        have o2 := OwnG.grown o1 (grown_cellG _ (w.heap.size + 1) 1 (.slice a6 nb c6)) (fun k hk e => by have h5 := (OwnG.lt ho6 k hk).1; have h6 := HS12.out; simp at e; omega)
        exact o2.mono (by have := HS12.out; omega)
      · intro k h1 h2
        have h7 := lt5 k h1
        have h8 := lt6 k h2
        rcases ht5 with rfl | rfl <;> rcases ht6 with rfl | rfl <;> rw [ob_some, Option.some.injEq] at h1 h2 <;> omega
      · refine HU.out.trans (Below.mono ?_ HU.out.size)
        repeat (with_reducible refine Below.setCell ?_ ?_ _; rotate_left; (focus (have := HS12.out; simp; omega)))
        exact bel6
  · go_simp
    have z3 := own_zeroG KBk W2 W2.heap.size 62 (Nat.le_refl _)
    have zb3 := alloc_below W2 (.cells #[] 62)
    have zs3 : W2.heap.size + 1 ≤ (W2.alloc (.cells #[] 62)).heap.size := by simp
    have z3 := OwnG.drewG z3
    have zb3 := zb3.drew
    have zs3 : W2.heap.size + 1 ≤ (W2.alloc (.cells #[] 62)).drew.heap.size := zs3
    have bel3 := HY.out.trans (zb3.mono HY.out.size)
    generalize (W2.alloc (.cells #[] 62)).drew = w3 at *
    have wb3 := zb3
    refine hK.out _ _ ?_ (fun hHeld => ?_)
    · try dsimp only
      exact HSx.out _ bel3
    clear hK K
    refine wpAnyH_ready (rs := [0]) (by kernel_rfl) (by simp) ?_
    refine AllReadyH.cons rfl (fun K hK => ?_) AllReadyH.nil
    go_simp
    have z4 := own_zeroG KPl w3 w3.heap.size 60 (Nat.le_refl _)
    have zb4 := alloc_below w3 (.cells #[] 60)
    have zs4 : w3.heap.size + 1 ≤ (w3.alloc (.cells #[] 60)).heap.size := by simp
    have bel4 := bel3.trans (zb4.mono bel3.size)
    generalize w3.alloc (.cells #[] 60) = w4 at *
    have oB4 := OwnG.later z3 zb4
    have wb4 := wb3.trans (zb4.mono wb3.size)
    refine hK.out _ _ ?_ (fun hHeld => ?_)
    · try dsimp only
      exact HSx.out _ bel4
    clear hK K
    refine wpAnyH_ready (rs := [3]) (by kernel_rfl) (by simp) ?_
    refine AllReadyH.cons rfl (fun K hK => ?_) AllReadyH.nil
    have hbs5 : w3.heap.size ≤ w4.heap.size := by omega
    refine step_appG Tryz.tyPl _ rfl (.tmp 3) (.tmp 5) 31 rfl (w3.heap.size) (some ⟨w3.heap.size, 0, none⟩) 0 0 np [] ps (.slice ap np cp) rfl rfl HN.out.1 z4 rfl (src_rowG Tryz.tyPl.1 np cp (by show 0 < 5; omega) HN.out.1 (HR.out.1.later (HU.out.trans (bel4.mono HU.out.size))) HC.out.1) (by omega) hbs5 ?_
    intro a5 c5 w5 ho5 hg5 ht5
    have zs5 := hg5.size
    have bel5 := Below.grown bel4 hg5 bel4.size (fun j hj => by rw [ob_some, Option.some.injEq] at hj; have := HS12.out; omega)
    have oB5 := OwnG.grown oB4 hg5 (fun j hj he => by rw [ob_some, Option.some.injEq] at hj he; omega)
    rw [Nat.zero_add, List.nil_append] at ho5
    have lt5 := fun j hj => (OwnG.lt ho5 j hj).2
    have wb5 := Below.grown wb4 hg5 wb4.size (fun j hj => by rw [ob_some, Option.some.injEq] at hj; omega)
    refine hK.out _ _ ?_ (fun hHeld => ?_)
    · try dsimp only
      exact HSx.out _ bel5
    clear hK K
    refine wpAnyH_ready (rs := [7]) (by kernel_rfl) (by simp) ?_
    refine AllReadyH.cons rfl (fun K hK => ?_) AllReadyH.nil
    have hbs6 : W2.heap.size ≤ w5.heap.size := by omega
    refine step_appG Tryz.tyBk _ rfl (.tmp 7) (.tmp 9) 32 rfl (W2.heap.size) (some ⟨W2.heap.size, 0, none⟩) 0 0 nb [] bs (.slice ab nb cb) rfl rfl HN.out.2 oB5 rfl (src_rowG Tryz.tyBk.1 nb cb (by show 0 < 5; omega) HN.out.2 (HR.out.2.later (HU.out.trans (bel5.mono HU.out.size))) HC.out.2) (by omega) hbs6 ?_
    intro a6 c6 w6 ho6 hg6 ht6
    have zs6 := hg6.size
    have bel6 := Below.grown bel5 hg6 bel5.size (fun j hj => by rw [ob_some, Option.some.injEq] at hj; have := HS12.out; omega)
    have oP6 := OwnG.grown ho5 hg6 (fun j hj he => by have h7 := lt5 j hj; rw [ob_some, Option.some.injEq] at he; rcases ht5 with rfl | rfl <;> rw [ob_some, Option.some.injEq] at hj <;> omega)
    rw [Nat.zero_add, List.nil_append] at ho6
    have lt6 := fun j hj => (OwnG.lt ho6 j hj).2
    have wb6 := Below.grown wb5 hg6 wb5.size (fun j hj => by rw [ob_some, Option.some.injEq] at hj; omega)
    refine hK.out _ _ ?_ (fun hHeld => ?_)
    · try dsimp only
      exact HSx.out _ bel6
    clear hK K
    refine wpAnyH_take (i := 8) (oi := ⟨some 11, _, _, _, _, _⟩) (v := ?_) rfl (by kernel_rfl) (by kernel_rfl) (by kernel_rfl) (fun _ _ _ h => h) (Or.inl ⟨by rfl, ?_⟩) (by assumption) ?_
    rotate_left
    · intro w hSw
      try dsimp only at hSw
      go_simp
      try with_reducible rfl
    simp only [Act.put, List.setIfInBounds_toArray]
    refine wpAnyH_ready (rs := [9]) (by kernel_rfl) (by simp) ?_
    refine AllReadyH.cons rfl (fun K hK => ?_) AllReadyH.nil
    have zz : w.heap.size + 1 < w6.heap.size := by have := HS12.out; omega
    have r0 := (wb6.cell yL).trans y0
    have r1 := (wb6.cell yL).trans y1
    have rF : ∀ o, w6.frozen? ⟨w.heap.size + 1, o, none⟩ = false := fun o => (wb6.frozen yL).trans (yF o)
    go_simp
    refine hK.out _ _ ?_ (fun hHeld => ?_)
    · try dsimp only
      refine HSx.out _ ?_
      repeat (with_reducible refine Below.setCell ?_ ?_ _; rotate_left; (focus (have := HS12.out; simp; omega)))
      exact bel6
    clear hK K
    refine wpAnyH_done (by kernel_rfl) ?_ _
    clear hHeld
    go_wp2_with fail
    refine bodyPost_ret (v := .agg #[.slice a5 np c5, .slice a6 nb c6]) (by simp [results, Tryz.results18, go_sem, r0, r1]) rfl ⟨a5, c5, a6, c6, rfl, ?_, ?_, ?_, ?_⟩
    · have o1 := OwnG.grown oP6 (grown_cellG w6 (w.heap.size + 1) 0 (.slice a5 np c5)) (fun k hk e => by have h5 := (OwnG.lt oP6 k hk).1; have h6 := HS12.out; simp at e; omega)
      have o2 := OwnG.grown o1 (grown_cellG _ (w.heap.size + 1) 1 (.slice a6 nb c6)) (fun k hk e => by have h5 := (OwnG.lt oP6 k hk).1; have h6 := HS12.out; simp at e; omega)
      exact o2.mono (by have := HS12.out; omega)
    · have o1 := OwnG.grown ho6 (grown_cellG w6 (w.heap.size + 1) 0 (.slice a5 np c5)) (fun k hk e => by have h5 := (OwnG.lt ho6 k hk).1; have h6 := HS12.out; simp at e; omega)
      have o2 := OwnG.grown o1 (grown_cellG _ (w.heap.size + 1) 1 (.slice a6 nb c6)) (fun k hk e => by have h5 := (OwnG.lt ho6 k hk).1; have h6 := HS12.out; simp at e; omega)
      exact o2.mono (by have := HS12.out; omega)
    · intro k h1 h2
      have h7 := lt5 k h1
      have h8 := lt6 k h2
      rcases ht5 with rfl | rfl <;> rcases ht6 with rfl | rfl <;> rw [ob_some, Option.some.injEq] at h1 h2 <;> omega
    · refine HU.out.trans (Below.mono ?_ HU.out.size)
      repeat (with_reducible refine Below.setCell ?_ ?_ _; rotate_left; (focus (have := HS12.out; simp; omega)))
      exact bel6

end Go.Proofs.YtmbmekcppmbokaaGreat

/-
  The specification's PlanOk answers as the program's.
-/
namespace Go.Proofs.YtmbmekcppmbokaaGreat
open Go.RowKit

set_option maxHeartbeats 1000000 in
theorem sPlanOk_any (ap : Option Addr) (np cp : Nat) (ab : Option Addr) (nb cb : Nat) (ps : List Pl) (bs : List Bk) (w : World) (hnp : np = ps.length) (hnb : nb = bs.length) (hP : RowG KPl w ap ps) (hK : RowG KBk w ab bs) (hlp : np ≤ 9000000000) (hl : nb ≤ 9000000000) (hst : ∀ q ∈ bs, q.t.size ≤ 9223372036854775807) :
    Calls Tryz.prog 19 #[.agg #[.slice ap np cp, .slice ab nb cb]] w fun e w' => e = .returned (.bool (planB ps bs)) ∧ Below w.heap.size w w' := by
  by_cases h1 : np ≤ 20
  · by_cases h2 : nb ≤ 60
    · have hv : planB ps bs = (poolsF none ps && blocksS ps none bs) := by
        unfold planB
        rw [decide_eq_true (hnp ▸ h1), decide_eq_true (hnb ▸ h2), Bool.true_and, Bool.true_and]
        cases hp : poolsF none ps
        · rfl
        · rw [Bool.true_and, Bool.true_and]
          exact (blocks_same (pools_dsj ps none (fun _ h => by cases h) hp).1 bs none (fun _ h => by cases h)).symm
      rw [hv]
      exact sPlanOk_core ap np cp ab nb cb ps bs w hnp hnb hP hK h1 h2 hst
    · have hv : planB ps bs = false := by
        unfold planB
        rw [decide_eq_false (hnb ▸ h2 : ¬ bs.length ≤ 60), Bool.and_false, Bool.false_and]
      rw [hv]
      have g1 : decide ((20 : Int) < (np : Int)) = false := decide_eq_false (by omega)
      have g2 : decide ((60 : Int) < (nb : Int)) = true := decide_eq_true (by omega)
      clear hP hK hnp hnb hst hv
      go_enter Tryz.func19, Tryz.ntmps19
      go_wp2_with fail
      go_ret
      exact ⟨rfl, (Below.refl _ _).alloc (Nat.le_refl _) _⟩
  · have hv : planB ps bs = false := by
      unfold planB
      rw [decide_eq_false (hnp ▸ h1 : ¬ ps.length ≤ 20), Bool.false_and, Bool.false_and]
    rw [hv]
    have g1 : decide ((20 : Int) < (np : Int)) = true := decide_eq_true (by omega)
    clear hP hK hnp hnb hst hv
    go_enter Tryz.func19, Tryz.ntmps19
    go_wp2_with fail
    go_ret
    exact ⟨rfl, (Below.refl _ _).alloc (Nat.le_refl _) _⟩

end Go.Proofs.YtmbmekcppmbokaaGreat

/-
  The specification's Free.
-/
namespace Go.Proofs.YtmbmekcppmbokaaGreat
open Go.RowKit

theorem RowG.takeG {α : Type} {K : Kd α} {w : World} {a : Option Addr} {ps : List α} (h : RowG K w a ps) (i : Nat) : RowG K w a (ps.take i) := fun j hj => by
  rw [List.length_take] at hj
  obtain ⟨p, o, q, ha, hp, hq, c⟩ := h j (by omega)
  exact ⟨p, o, q, ha, hp, by rw [List.getElem?_take, if_pos (by omega)]; exact hq, c⟩
theorem RowG.fromG {α : Type} {K : Kd α} {w : World} {g : Nat} {ps : List α} (h : RowG K w (some ⟨g, 0, none⟩) ps) (j : Nat) : RowG K w (some ⟨g, j * K.k, none⟩) (ps.drop j) := fun i hi => by
  rw [List.length_drop] at hi
  obtain ⟨p, o, q, ha, hp, hq, c⟩ := h (j + i) (by omega)
  simp only [Option.some.injEq, Addr.mk.injEq, and_true] at ha
  obtain ⟨rfl, rfl⟩ := ha
  refine ⟨_, _, q, rfl, hp, by rw [List.getElem?_drop]; exact hq, fun x v hv => ?_⟩
  have := c x v hv
  rw [Nat.zero_add, Nat.add_mul] at this
  exact this
theorem below_drewN {n : Nat} {w w' : World} (h : Below n w w') (k : Nat) : Below n w (w'.drewN k) := ⟨h.os, h.tape, h.output, h.size, h.block⟩
theorem cell_set1b {w : World} {x b o : Nat} {u v : Value} (h : w.cell? ⟨b, o, none⟩ = some v) (hb : b ≠ x) : (w.setCell ⟨x, 1, none⟩ u).cell? ⟨b, o, none⟩ = some v := by
  rw [World.cell?_of_block (heap_setCell_other _ ⟨x, 1, none⟩ b _ (by simpa using hb))]; exact h
theorem frz_set1b {w : World} {x b o : Nat} {u : Value} (h : w.frozen? ⟨b, o, none⟩ = false) (hb : b ≠ x) : (w.setCell ⟨x, 1, none⟩ u).frozen? ⟨b, o, none⟩ = false := by
  rw [World.frozen?_of_block (heap_setCell_other _ ⟨x, 1, none⟩ b _ (by simpa using hb))]; exact h
theorem erase_eqB (ps : List Bk) (i : Nat) : ps.take i ++ ps.drop (i + 1) = ps.eraseIdx i := (List.eraseIdx_eq_take_drop_succ ps i).symm

set_option maxRecDepth 10000 in
set_option maxHeartbeats 4000000 in
theorem sFree_a (pt : Pf) (ow : ByteArray) (how : ow.size ≤ 9223372036854775807) (g h : Nat) (np nb : Nat) (ps : List Pl) (bs : List Bk) (w : World) (hnp : np = ps.length) (hnb : nb = bs.length) (hP : RowG KPl w (some ⟨g, 0, none⟩) ps) (hK : RowG KBk w (some ⟨h, 0, none⟩) bs) (hl : np ≤ 1048576) (hl' : nb ≤ 1048576) (hst : ∀ q ∈ bs, q.t.size ≤ 9223372036854775807) (hr : planB ps bs = false) :
    Calls Tryz.prog 14 #[.agg #[.slice (some ⟨g, 0, none⟩) np np, .slice (some ⟨h, 0, none⟩) nb nb], .agg #[.bool pt.s, .int .i64 pt.H.toInt, .int .i64 pt.L.toInt, .int .i64 pt.b], .string ow] w fun e w' => ∃ a c b d, e = .returned (.tuple #[.agg #[.slice a np c, .slice b nb d], .int .i64 (1)]) ∧ OwnG KPl 60 w' w.heap.size (.slice a np c) (ps) ∧ OwnG KBk 62 w' w.heap.size (.slice b nb d) (bs) ∧ (∀ k, (Value.slice a np c).ownBlock = some k → (Value.slice b nb d).ownBlock ≠ some k) ∧ Below w.heap.size w w' := by
  have HOw := hidP (fun W h' => l5Copy_any (some ⟨g, 0, none⟩) np np (some ⟨h, 0, none⟩) nb nb ps bs W hnp hnb (hP.later h') (hK.later h') (fun e => by cases e) (fun e => by cases e) hl hl')
  have HPO := hidP (fun W h' => sPlanOk_any (some ⟨g, 0, none⟩) np np (some ⟨h, 0, none⟩) nb nb ps bs W hnp hnb (hP.later h') (hK.later h') (by omega) (by omega) hst)
  have HPk := hidP (sPrefixOk_any pt.s pt.H pt.L pt.b)
  change Hid (∀ w, Calls Tryz.prog 20 _ w fun e w' => e = .returned (.bool pt.pk) ∧ Below w.heap.size w w') at HPk
  have HOO := hidP (fun W => sOwnerOk_any ow W how)
  have HN := hidP (And.intro hnp hnb)
  have HRB := hidP hK
  clear hP hK hnp hnb hst how
  rw [hr] at HPO
  go_enter Tryz.func14, Tryz.ntmps14
  go_wp2_with fail
  have uF := frz2 w 34 (.slice (some ⟨g, 0, none⟩) np np) (.slice (some ⟨h, 0, none⟩) nb nb)
  obtain ⟨u0, u1⟩ := box2 (u := .slice (some ⟨g, 0, none⟩) np np) (v := .slice (some ⟨h, 0, none⟩) nb nb) w 34
  have uB := alloc_below w (.cells #[.slice (some ⟨g, 0, none⟩) np np, .slice (some ⟨h, 0, none⟩) nb nb] 34)
  have uL := alloc_lt w (.cells #[.slice (some ⟨g, 0, none⟩) np np, .slice (some ⟨h, 0, none⟩) nb nb] 34)
  have uS : (w.alloc (.cells #[.slice (some ⟨g, 0, none⟩) np np, .slice (some ⟨h, 0, none⟩) nb nb] 34)).heap.size = w.heap.size + 1 := by simp
  generalize w.alloc (.cells #[.slice (some ⟨g, 0, none⟩) np np, .slice (some ⟨h, 0, none⟩) nb nb] 34) = W1 at *
  obtain ⟨y0, y1, y2, y3⟩ := box4 (p := pt) W1 37
  have yB := alloc_below W1 (.cells #[.bool pt.s, .int .i64 pt.H.toInt, .int .i64 pt.L.toInt, .int .i64 pt.b] 37)
  have yL := alloc_lt W1 (.cells #[.bool pt.s, .int .i64 pt.H.toInt, .int .i64 pt.L.toInt, .int .i64 pt.b] 37)
  have yS : (W1.alloc (.cells #[.bool pt.s, .int .i64 pt.H.toInt, .int .i64 pt.L.toInt, .int .i64 pt.b] 37)).heap.size = W1.heap.size + 1 := by simp
  generalize W1.alloc (.cells #[.bool pt.s, .int .i64 pt.H.toInt, .int .i64 pt.L.toInt, .int .i64 pt.b] 37) = W2 at *
  rw [uS] at y0 y1 y2 y3 yL yS
  have kF := frz2 W2 34 (.slice none 0 0) (.slice none 0 0)
  obtain ⟨k0, k1⟩ := box2 (u := .slice none 0 0) (v := .slice none 0 0) W2 34
  have kB := alloc_below W2 (.cells #[.slice none 0 0, .slice none 0 0] 34)
  have kL := alloc_lt W2 (.cells #[.slice none 0 0, .slice none 0 0] 34)
  have kS : (W2.alloc (.cells #[.slice none 0 0, .slice none 0 0] 34)).heap.size = W2.heap.size + 1 := by simp
  generalize W2.alloc (.cells #[.slice none 0 0, .slice none 0 0] 34) = W3 at *
  rw [yS] at k0 k1 kL kS
  rw [yS] at kF
  have l0 : w.heap.size < W2.heap.size := by omega
  have l1 : w.heap.size + 1 < W2.heap.size := by omega
  have U0 := (kB.cell l0).trans ((yB.cell uL).trans u0)
  have U1 := (kB.cell l0).trans ((yB.cell uL).trans u1)
  have UF : ∀ o, W3.frozen? ⟨w.heap.size, o, none⟩ = false := fun o => (kB.frozen l0).trans ((yB.frozen uL).trans (uF o))
  have Y0 := (kB.cell l1).trans y0
  have Y1 := (kB.cell l1).trans y1
  have Y2 := (kB.cell l1).trans y2
  have Y3 := (kB.cell l1).trans y3
  have acc0 := hidP ((uB.trans (yB.mono uB.size)).trans (kB.mono (Nat.le_trans uB.size yB.size)))
  have UL : w.heap.size < W3.heap.size := by omega
  have YL : w.heap.size + 1 < W3.heap.size := by omega
  have kL3 : w.heap.size + 1 + 1 < W3.heap.size := by omega
  have UL9 := UL
  have kL9 := kL3
  clear uB yB kB uS yS kS u0 u1 y0 y1 y2 y3 uL yL kL uF l0 l1
  have U1c := U1
  have ac3_W3 := hidP (Below.refl W3.heap.size W3)
  refine (HOw.out _ acc0.out).mono ?_
  rintro e w4 ⟨a, c, b, d, rfl, op, ob, hne, hb4⟩
  have pb0_w4 := (hb4.cell UL).trans U0
  have pb1_w4 := (hb4.cell UL).trans U1
  have pbF_w4 : ∀ o, w4.frozen? ⟨w.heap.size, o, none⟩ = false := fun o => (hb4.frozen UL).trans (UF o)
  have pbL_w4 : w.heap.size < w4.heap.size := Nat.lt_of_lt_of_le UL hb4.size
  have at0_w4 := (hb4.cell YL).trans Y0
  have at1_w4 := (hb4.cell YL).trans Y1
  have at2_w4 := (hb4.cell YL).trans Y2
  have at3_w4 := (hb4.cell YL).trans Y3
  have atL_w4 : w.heap.size + 1 < w4.heap.size := Nat.lt_of_lt_of_le YL hb4.size
  have rs0_w4 := (hb4.cell kL3).trans k0
  have rs1_w4 := (hb4.cell kL3).trans k1
  have rsF_w4 : ∀ o, w4.frozen? ⟨w.heap.size + 1 + 1, o, none⟩ = false := fun o => (hb4.frozen kL3).trans (kF o)
  have rsL_w4 : w.heap.size + 1 + 1 < w4.heap.size := Nat.lt_of_lt_of_le kL3 hb4.size
  have acc_w4 := hidP (acc0.out.trans (hb4.mono acc0.out.size))
  have ac3_w4 := hidP (ac3_W3.out.trans (hb4.mono ac3_W3.out.size))
  have w43c := hb4.size
  have HLB4 := hidP (fun j hj => (OwnG.lt op j hj).2)
  have oP_w4 := hidP op
  have oB_w4 := hidP ob
  have HNE := hidP hne
  clear UF U0 U1 UL Y0 Y1 Y2 Y3 YL kF k0 k1 kL3 acc0 ac3_W3 hb4 op ob hne
  go_wp2_with fail
  have oF := frz2 w4 34 (.slice a np c) (.slice b nb d)
  obtain ⟨o0, o1⟩ := box2 (u := .slice a np c) (v := .slice b nb d) w4 34
  have oB := alloc_below w4 (.cells #[.slice a np c, .slice b nb d] 34)
  have oL := alloc_lt w4 (.cells #[.slice a np c, .slice b nb d] 34)
  have oS : (w4.alloc (.cells #[.slice a np c, .slice b nb d] 34)).heap.size = w4.heap.size + 1 := by simp
  generalize w4.alloc (.cells #[.slice a np c, .slice b nb d] 34) = W5 at *
  have hb5 := oB
  have pb0_W5 := (hb5.cell pbL_w4).trans pb0_w4
  have pb1_W5 := (hb5.cell pbL_w4).trans pb1_w4
  have pbF_W5 : ∀ o, W5.frozen? ⟨w.heap.size, o, none⟩ = false := fun o => (hb5.frozen pbL_w4).trans (pbF_w4 o)
  have pbL_W5 : w.heap.size < W5.heap.size := Nat.lt_of_lt_of_le pbL_w4 hb5.size
  have at0_W5 := (hb5.cell atL_w4).trans at0_w4
  have at1_W5 := (hb5.cell atL_w4).trans at1_w4
  have at2_W5 := (hb5.cell atL_w4).trans at2_w4
  have at3_W5 := (hb5.cell atL_w4).trans at3_w4
  have atL_W5 : w.heap.size + 1 < W5.heap.size := Nat.lt_of_lt_of_le atL_w4 hb5.size
  have rs0_W5 := (hb5.cell rsL_w4).trans rs0_w4
  have rs1_W5 := (hb5.cell rsL_w4).trans rs1_w4
  have rsF_W5 : ∀ o, W5.frozen? ⟨w.heap.size + 1 + 1, o, none⟩ = false := fun o => (hb5.frozen rsL_w4).trans (rsF_w4 o)
  have rsL_W5 : w.heap.size + 1 + 1 < W5.heap.size := Nat.lt_of_lt_of_le rsL_w4 hb5.size
  have oP_W5 := hidP (OwnG.later oP_w4.out hb5)
  have oB_W5 := hidP (OwnG.later oB_w4.out hb5)
  have acc_W5 := hidP (acc_w4.out.trans (hb5.mono acc_w4.out.size))
  have ac3_W5 := hidP (ac3_w4.out.trans (hb5.mono ac3_w4.out.size))
  clear pbF_w4 pb0_w4 pb1_w4 pbL_w4 at0_w4 at1_w4 at2_w4 at3_w4 atL_w4 rsF_w4 rs0_w4 rs1_w4 rsL_w4 oP_w4 oB_w4 acc_w4 ac3_w4 hb5 oB oS
  refine (HPO.out _ acc_W5.out).mono ?_
  rintro e w6 ⟨rfl, hb6⟩
  have pb0_w6 := (hb6.cell pbL_W5).trans pb0_W5
  have pb1_w6 := (hb6.cell pbL_W5).trans pb1_W5
  have pbF_w6 : ∀ o, w6.frozen? ⟨w.heap.size, o, none⟩ = false := fun o => (hb6.frozen pbL_W5).trans (pbF_W5 o)
  have pbL_w6 : w.heap.size < w6.heap.size := Nat.lt_of_lt_of_le pbL_W5 hb6.size
  have at0_w6 := (hb6.cell atL_W5).trans at0_W5
  have at1_w6 := (hb6.cell atL_W5).trans at1_W5
  have at2_w6 := (hb6.cell atL_W5).trans at2_W5
  have at3_w6 := (hb6.cell atL_W5).trans at3_W5
  have atL_w6 : w.heap.size + 1 < w6.heap.size := Nat.lt_of_lt_of_le atL_W5 hb6.size
  have rs0_w6 := (hb6.cell rsL_W5).trans rs0_W5
  have rs1_w6 := (hb6.cell rsL_W5).trans rs1_W5
  have rsF_w6 : ∀ o, w6.frozen? ⟨w.heap.size + 1 + 1, o, none⟩ = false := fun o => (hb6.frozen rsL_W5).trans (rsF_W5 o)
  have rsL_w6 : w.heap.size + 1 + 1 < w6.heap.size := Nat.lt_of_lt_of_le rsL_W5 hb6.size
  have ot0_w6 := (hb6.cell oL).trans o0
  have ot1_w6 := (hb6.cell oL).trans o1
  have otF_w6 : ∀ o, w6.frozen? ⟨w4.heap.size, o, none⟩ = false := fun o => (hb6.frozen oL).trans (oF o)
  have otL_w6 : w4.heap.size < w6.heap.size := Nat.lt_of_lt_of_le oL hb6.size
  have oP_w6 := hidP (OwnG.later oP_W5.out hb6)
  have oB_w6 := hidP (OwnG.later oB_W5.out hb6)
  have acc_w6 := hidP (acc_W5.out.trans (hb6.mono acc_W5.out.size))
  have ac3_w6 := hidP (ac3_W5.out.trans (hb6.mono ac3_W5.out.size))
  clear pbF_W5 pb0_W5 pb1_W5 pbL_W5 at0_W5 at1_W5 at2_W5 at3_W5 atL_W5 rsF_W5 rs0_W5 rs1_W5 rsL_W5 oF o0 o1 oL oP_W5 oB_W5 acc_W5 ac3_W5 hb6
  go_wp2_with fail
  refine bodyPost_ret (v := .tuple #[.agg #[.slice a np c, .slice b nb d], .int .i64 1]) (by simp [results, Tryz.results14, go_sem, rs0_w6, rs1_w6]) rfl ⟨_, _, _, _, rfl, (OwnG.set2 oP_w6.out kL9).mono (Nat.le_of_lt UL9), (OwnG.set2 oB_w6.out kL9).mono (Nat.le_of_lt UL9), HNE.out, below_set2 acc_w6.out (by omega)⟩

set_option maxRecDepth 10000 in
set_option maxHeartbeats 4000000 in
theorem sFree_b (pt : Pf) (ow : ByteArray) (how : ow.size ≤ 9223372036854775807) (g h : Nat) (np nb : Nat) (ps : List Pl) (bs : List Bk) (w : World) (hnp : np = ps.length) (hnb : nb = bs.length) (hP : RowG KPl w (some ⟨g, 0, none⟩) ps) (hK : RowG KBk w (some ⟨h, 0, none⟩) bs) (hl : np ≤ 1048576) (hl' : nb ≤ 1048576) (hst : ∀ q ∈ bs, q.t.size ≤ 9223372036854775807) (hr : planB ps bs = true) (hk : pt.pk = false) :
    Calls Tryz.prog 14 #[.agg #[.slice (some ⟨g, 0, none⟩) np np, .slice (some ⟨h, 0, none⟩) nb nb], .agg #[.bool pt.s, .int .i64 pt.H.toInt, .int .i64 pt.L.toInt, .int .i64 pt.b], .string ow] w fun e w' => ∃ a c b d, e = .returned (.tuple #[.agg #[.slice a np c, .slice b nb d], .int .i64 (1)]) ∧ OwnG KPl 60 w' w.heap.size (.slice a np c) (ps) ∧ OwnG KBk 62 w' w.heap.size (.slice b nb d) (bs) ∧ (∀ k, (Value.slice a np c).ownBlock = some k → (Value.slice b nb d).ownBlock ≠ some k) ∧ Below w.heap.size w w' := by
  have HOw := hidP (fun W h' => l5Copy_any (some ⟨g, 0, none⟩) np np (some ⟨h, 0, none⟩) nb nb ps bs W hnp hnb (hP.later h') (hK.later h') (fun e => by cases e) (fun e => by cases e) hl hl')
  have HPO := hidP (fun W h' => sPlanOk_any (some ⟨g, 0, none⟩) np np (some ⟨h, 0, none⟩) nb nb ps bs W hnp hnb (hP.later h') (hK.later h') (by omega) (by omega) hst)
  have HPk := hidP (sPrefixOk_any pt.s pt.H pt.L pt.b)
  change Hid (∀ w, Calls Tryz.prog 20 _ w fun e w' => e = .returned (.bool pt.pk) ∧ Below w.heap.size w w') at HPk
  have HOO := hidP (fun W => sOwnerOk_any ow W how)
  have HN := hidP (And.intro hnp hnb)
  have HRB := hidP hK
  clear hP hK hnp hnb hst how
  rw [hr] at HPO
  rw [hk] at HPk
  go_enter Tryz.func14, Tryz.ntmps14
  go_wp2_with fail
  have uF := frz2 w 34 (.slice (some ⟨g, 0, none⟩) np np) (.slice (some ⟨h, 0, none⟩) nb nb)
  obtain ⟨u0, u1⟩ := box2 (u := .slice (some ⟨g, 0, none⟩) np np) (v := .slice (some ⟨h, 0, none⟩) nb nb) w 34
  have uB := alloc_below w (.cells #[.slice (some ⟨g, 0, none⟩) np np, .slice (some ⟨h, 0, none⟩) nb nb] 34)
  have uL := alloc_lt w (.cells #[.slice (some ⟨g, 0, none⟩) np np, .slice (some ⟨h, 0, none⟩) nb nb] 34)
  have uS : (w.alloc (.cells #[.slice (some ⟨g, 0, none⟩) np np, .slice (some ⟨h, 0, none⟩) nb nb] 34)).heap.size = w.heap.size + 1 := by simp
  generalize w.alloc (.cells #[.slice (some ⟨g, 0, none⟩) np np, .slice (some ⟨h, 0, none⟩) nb nb] 34) = W1 at *
  obtain ⟨y0, y1, y2, y3⟩ := box4 (p := pt) W1 37
  have yB := alloc_below W1 (.cells #[.bool pt.s, .int .i64 pt.H.toInt, .int .i64 pt.L.toInt, .int .i64 pt.b] 37)
  have yL := alloc_lt W1 (.cells #[.bool pt.s, .int .i64 pt.H.toInt, .int .i64 pt.L.toInt, .int .i64 pt.b] 37)
  have yS : (W1.alloc (.cells #[.bool pt.s, .int .i64 pt.H.toInt, .int .i64 pt.L.toInt, .int .i64 pt.b] 37)).heap.size = W1.heap.size + 1 := by simp
  generalize W1.alloc (.cells #[.bool pt.s, .int .i64 pt.H.toInt, .int .i64 pt.L.toInt, .int .i64 pt.b] 37) = W2 at *
  rw [uS] at y0 y1 y2 y3 yL yS
  have kF := frz2 W2 34 (.slice none 0 0) (.slice none 0 0)
  obtain ⟨k0, k1⟩ := box2 (u := .slice none 0 0) (v := .slice none 0 0) W2 34
  have kB := alloc_below W2 (.cells #[.slice none 0 0, .slice none 0 0] 34)
  have kL := alloc_lt W2 (.cells #[.slice none 0 0, .slice none 0 0] 34)
  have kS : (W2.alloc (.cells #[.slice none 0 0, .slice none 0 0] 34)).heap.size = W2.heap.size + 1 := by simp
  generalize W2.alloc (.cells #[.slice none 0 0, .slice none 0 0] 34) = W3 at *
  rw [yS] at k0 k1 kL kS
  rw [yS] at kF
  have l0 : w.heap.size < W2.heap.size := by omega
  have l1 : w.heap.size + 1 < W2.heap.size := by omega
  have U0 := (kB.cell l0).trans ((yB.cell uL).trans u0)
  have U1 := (kB.cell l0).trans ((yB.cell uL).trans u1)
  have UF : ∀ o, W3.frozen? ⟨w.heap.size, o, none⟩ = false := fun o => (kB.frozen l0).trans ((yB.frozen uL).trans (uF o))
  have Y0 := (kB.cell l1).trans y0
  have Y1 := (kB.cell l1).trans y1
  have Y2 := (kB.cell l1).trans y2
  have Y3 := (kB.cell l1).trans y3
  have acc0 := hidP ((uB.trans (yB.mono uB.size)).trans (kB.mono (Nat.le_trans uB.size yB.size)))
  have UL : w.heap.size < W3.heap.size := by omega
  have YL : w.heap.size + 1 < W3.heap.size := by omega
  have kL3 : w.heap.size + 1 + 1 < W3.heap.size := by omega
  have UL9 := UL
  have kL9 := kL3
  clear uB yB kB uS yS kS u0 u1 y0 y1 y2 y3 uL yL kL uF l0 l1
  have U1c := U1
  have ac3_W3 := hidP (Below.refl W3.heap.size W3)
  refine (HOw.out _ acc0.out).mono ?_
  rintro e w4 ⟨a, c, b, d, rfl, op, ob, hne, hb4⟩
  have pb0_w4 := (hb4.cell UL).trans U0
  have pb1_w4 := (hb4.cell UL).trans U1
  have pbF_w4 : ∀ o, w4.frozen? ⟨w.heap.size, o, none⟩ = false := fun o => (hb4.frozen UL).trans (UF o)
  have pbL_w4 : w.heap.size < w4.heap.size := Nat.lt_of_lt_of_le UL hb4.size
  have at0_w4 := (hb4.cell YL).trans Y0
  have at1_w4 := (hb4.cell YL).trans Y1
  have at2_w4 := (hb4.cell YL).trans Y2
  have at3_w4 := (hb4.cell YL).trans Y3
  have atL_w4 : w.heap.size + 1 < w4.heap.size := Nat.lt_of_lt_of_le YL hb4.size
  have rs0_w4 := (hb4.cell kL3).trans k0
  have rs1_w4 := (hb4.cell kL3).trans k1
  have rsF_w4 : ∀ o, w4.frozen? ⟨w.heap.size + 1 + 1, o, none⟩ = false := fun o => (hb4.frozen kL3).trans (kF o)
  have rsL_w4 : w.heap.size + 1 + 1 < w4.heap.size := Nat.lt_of_lt_of_le kL3 hb4.size
  have acc_w4 := hidP (acc0.out.trans (hb4.mono acc0.out.size))
  have ac3_w4 := hidP (ac3_W3.out.trans (hb4.mono ac3_W3.out.size))
  have w43c := hb4.size
  have HLB4 := hidP (fun j hj => (OwnG.lt op j hj).2)
  have oP_w4 := hidP op
  have oB_w4 := hidP ob
  have HNE := hidP hne
  clear UF U0 U1 UL Y0 Y1 Y2 Y3 YL kF k0 k1 kL3 acc0 ac3_W3 hb4 op ob hne
  go_wp2_with fail
  have oF := frz2 w4 34 (.slice a np c) (.slice b nb d)
  obtain ⟨o0, o1⟩ := box2 (u := .slice a np c) (v := .slice b nb d) w4 34
  have oB := alloc_below w4 (.cells #[.slice a np c, .slice b nb d] 34)
  have oL := alloc_lt w4 (.cells #[.slice a np c, .slice b nb d] 34)
  have oS : (w4.alloc (.cells #[.slice a np c, .slice b nb d] 34)).heap.size = w4.heap.size + 1 := by simp
  generalize w4.alloc (.cells #[.slice a np c, .slice b nb d] 34) = W5 at *
  have hb5 := oB
  have pb0_W5 := (hb5.cell pbL_w4).trans pb0_w4
  have pb1_W5 := (hb5.cell pbL_w4).trans pb1_w4
  have pbF_W5 : ∀ o, W5.frozen? ⟨w.heap.size, o, none⟩ = false := fun o => (hb5.frozen pbL_w4).trans (pbF_w4 o)
  have pbL_W5 : w.heap.size < W5.heap.size := Nat.lt_of_lt_of_le pbL_w4 hb5.size
  have at0_W5 := (hb5.cell atL_w4).trans at0_w4
  have at1_W5 := (hb5.cell atL_w4).trans at1_w4
  have at2_W5 := (hb5.cell atL_w4).trans at2_w4
  have at3_W5 := (hb5.cell atL_w4).trans at3_w4
  have atL_W5 : w.heap.size + 1 < W5.heap.size := Nat.lt_of_lt_of_le atL_w4 hb5.size
  have rs0_W5 := (hb5.cell rsL_w4).trans rs0_w4
  have rs1_W5 := (hb5.cell rsL_w4).trans rs1_w4
  have rsF_W5 : ∀ o, W5.frozen? ⟨w.heap.size + 1 + 1, o, none⟩ = false := fun o => (hb5.frozen rsL_w4).trans (rsF_w4 o)
  have rsL_W5 : w.heap.size + 1 + 1 < W5.heap.size := Nat.lt_of_lt_of_le rsL_w4 hb5.size
  have oP_W5 := hidP (OwnG.later oP_w4.out hb5)
  have oB_W5 := hidP (OwnG.later oB_w4.out hb5)
  have acc_W5 := hidP (acc_w4.out.trans (hb5.mono acc_w4.out.size))
  have ac3_W5 := hidP (ac3_w4.out.trans (hb5.mono ac3_w4.out.size))
  clear pbF_w4 pb0_w4 pb1_w4 pbL_w4 at0_w4 at1_w4 at2_w4 at3_w4 atL_w4 rsF_w4 rs0_w4 rs1_w4 rsL_w4 oP_w4 oB_w4 acc_w4 ac3_w4 hb5 oB oS
  refine (HPO.out _ acc_W5.out).mono ?_
  rintro e w6 ⟨rfl, hb6⟩
  have pb0_w6 := (hb6.cell pbL_W5).trans pb0_W5
  have pb1_w6 := (hb6.cell pbL_W5).trans pb1_W5
  have pbF_w6 : ∀ o, w6.frozen? ⟨w.heap.size, o, none⟩ = false := fun o => (hb6.frozen pbL_W5).trans (pbF_W5 o)
  have pbL_w6 : w.heap.size < w6.heap.size := Nat.lt_of_lt_of_le pbL_W5 hb6.size
  have at0_w6 := (hb6.cell atL_W5).trans at0_W5
  have at1_w6 := (hb6.cell atL_W5).trans at1_W5
  have at2_w6 := (hb6.cell atL_W5).trans at2_W5
  have at3_w6 := (hb6.cell atL_W5).trans at3_W5
  have atL_w6 : w.heap.size + 1 < w6.heap.size := Nat.lt_of_lt_of_le atL_W5 hb6.size
  have rs0_w6 := (hb6.cell rsL_W5).trans rs0_W5
  have rs1_w6 := (hb6.cell rsL_W5).trans rs1_W5
  have rsF_w6 : ∀ o, w6.frozen? ⟨w.heap.size + 1 + 1, o, none⟩ = false := fun o => (hb6.frozen rsL_W5).trans (rsF_W5 o)
  have rsL_w6 : w.heap.size + 1 + 1 < w6.heap.size := Nat.lt_of_lt_of_le rsL_W5 hb6.size
  have ot0_w6 := (hb6.cell oL).trans o0
  have ot1_w6 := (hb6.cell oL).trans o1
  have otF_w6 : ∀ o, w6.frozen? ⟨w4.heap.size, o, none⟩ = false := fun o => (hb6.frozen oL).trans (oF o)
  have otL_w6 : w4.heap.size < w6.heap.size := Nat.lt_of_lt_of_le oL hb6.size
  have oP_w6 := hidP (OwnG.later oP_W5.out hb6)
  have oB_w6 := hidP (OwnG.later oB_W5.out hb6)
  have acc_w6 := hidP (acc_W5.out.trans (hb6.mono acc_W5.out.size))
  have ac3_w6 := hidP (ac3_W5.out.trans (hb6.mono ac3_W5.out.size))
  clear pbF_W5 pb0_W5 pb1_W5 pbL_W5 at0_W5 at1_W5 at2_W5 at3_W5 atL_W5 rsF_W5 rs0_W5 rs1_W5 rsL_W5 oF o0 o1 oL oP_W5 oB_W5 acc_W5 ac3_W5 hb6
  go_wp2_with fail
  refine (HPk.out _).mono ?_
  rintro e w7 ⟨rfl, hb7⟩
  have pb0_w7 := (hb7.cell pbL_w6).trans pb0_w6
  have pb1_w7 := (hb7.cell pbL_w6).trans pb1_w6
  have pbF_w7 : ∀ o, w7.frozen? ⟨w.heap.size, o, none⟩ = false := fun o => (hb7.frozen pbL_w6).trans (pbF_w6 o)
  have pbL_w7 : w.heap.size < w7.heap.size := Nat.lt_of_lt_of_le pbL_w6 hb7.size
  have at0_w7 := (hb7.cell atL_w6).trans at0_w6
  have at1_w7 := (hb7.cell atL_w6).trans at1_w6
  have at2_w7 := (hb7.cell atL_w6).trans at2_w6
  have at3_w7 := (hb7.cell atL_w6).trans at3_w6
  have atL_w7 : w.heap.size + 1 < w7.heap.size := Nat.lt_of_lt_of_le atL_w6 hb7.size
  have rs0_w7 := (hb7.cell rsL_w6).trans rs0_w6
  have rs1_w7 := (hb7.cell rsL_w6).trans rs1_w6
  have rsF_w7 : ∀ o, w7.frozen? ⟨w.heap.size + 1 + 1, o, none⟩ = false := fun o => (hb7.frozen rsL_w6).trans (rsF_w6 o)
  have rsL_w7 : w.heap.size + 1 + 1 < w7.heap.size := Nat.lt_of_lt_of_le rsL_w6 hb7.size
  have ot0_w7 := (hb7.cell otL_w6).trans ot0_w6
  have ot1_w7 := (hb7.cell otL_w6).trans ot1_w6
  have otF_w7 : ∀ o, w7.frozen? ⟨w4.heap.size, o, none⟩ = false := fun o => (hb7.frozen otL_w6).trans (otF_w6 o)
  have otL_w7 : w4.heap.size < w7.heap.size := Nat.lt_of_lt_of_le otL_w6 hb7.size
  have oP_w7 := hidP (OwnG.later oP_w6.out hb7)
  have oB_w7 := hidP (OwnG.later oB_w6.out hb7)
  have acc_w7 := hidP (acc_w6.out.trans (hb7.mono acc_w6.out.size))
  have ac3_w7 := hidP (ac3_w6.out.trans (hb7.mono ac3_w6.out.size))
  clear pbF_w6 pb0_w6 pb1_w6 pbL_w6 at0_w6 at1_w6 at2_w6 at3_w6 atL_w6 rsF_w6 rs0_w6 rs1_w6 rsL_w6 otF_w6 ot0_w6 ot1_w6 otL_w6 oP_w6 oB_w6 acc_w6 ac3_w6 hb7
  go_wp2_with fail
  refine bodyPost_ret (v := .tuple #[.agg #[.slice a np c, .slice b nb d], .int .i64 1]) (by simp [results, Tryz.results14, go_sem, rs0_w7, rs1_w7]) rfl ⟨_, _, _, _, rfl, (OwnG.set2 oP_w7.out kL9).mono (Nat.le_of_lt UL9), (OwnG.set2 oB_w7.out kL9).mono (Nat.le_of_lt UL9), HNE.out, below_set2 acc_w7.out (by omega)⟩

set_option maxRecDepth 10000 in
set_option maxHeartbeats 4000000 in
theorem sFree_c (pt : Pf) (ow : ByteArray) (how : ow.size ≤ 9223372036854775807) (g h : Nat) (np nb : Nat) (ps : List Pl) (bs : List Bk) (w : World) (hnp : np = ps.length) (hnb : nb = bs.length) (hP : RowG KPl w (some ⟨g, 0, none⟩) ps) (hK : RowG KBk w (some ⟨h, 0, none⟩) bs) (hl : np ≤ 1048576) (hl' : nb ≤ 1048576) (hst : ∀ q ∈ bs, q.t.size ≤ 9223372036854775807) (hr : planB ps bs = true) (hk : pt.pk = true) (ho : ownB ow = false) :
    Calls Tryz.prog 14 #[.agg #[.slice (some ⟨g, 0, none⟩) np np, .slice (some ⟨h, 0, none⟩) nb nb], .agg #[.bool pt.s, .int .i64 pt.H.toInt, .int .i64 pt.L.toInt, .int .i64 pt.b], .string ow] w fun e w' => ∃ a c b d, e = .returned (.tuple #[.agg #[.slice a np c, .slice b nb d], .int .i64 (1)]) ∧ OwnG KPl 60 w' w.heap.size (.slice a np c) (ps) ∧ OwnG KBk 62 w' w.heap.size (.slice b nb d) (bs) ∧ (∀ k, (Value.slice a np c).ownBlock = some k → (Value.slice b nb d).ownBlock ≠ some k) ∧ Below w.heap.size w w' := by
  have HOw := hidP (fun W h' => l5Copy_any (some ⟨g, 0, none⟩) np np (some ⟨h, 0, none⟩) nb nb ps bs W hnp hnb (hP.later h') (hK.later h') (fun e => by cases e) (fun e => by cases e) hl hl')
  have HPO := hidP (fun W h' => sPlanOk_any (some ⟨g, 0, none⟩) np np (some ⟨h, 0, none⟩) nb nb ps bs W hnp hnb (hP.later h') (hK.later h') (by omega) (by omega) hst)
  have HPk := hidP (sPrefixOk_any pt.s pt.H pt.L pt.b)
  change Hid (∀ w, Calls Tryz.prog 20 _ w fun e w' => e = .returned (.bool pt.pk) ∧ Below w.heap.size w w') at HPk
  have HOO := hidP (fun W => sOwnerOk_any ow W how)
  have HN := hidP (And.intro hnp hnb)
  have HRB := hidP hK
  clear hP hK hnp hnb hst how
  rw [hr] at HPO
  rw [hk] at HPk
  rw [ho] at HOO
  go_enter Tryz.func14, Tryz.ntmps14
  go_wp2_with fail
  have uF := frz2 w 34 (.slice (some ⟨g, 0, none⟩) np np) (.slice (some ⟨h, 0, none⟩) nb nb)
  obtain ⟨u0, u1⟩ := box2 (u := .slice (some ⟨g, 0, none⟩) np np) (v := .slice (some ⟨h, 0, none⟩) nb nb) w 34
  have uB := alloc_below w (.cells #[.slice (some ⟨g, 0, none⟩) np np, .slice (some ⟨h, 0, none⟩) nb nb] 34)
  have uL := alloc_lt w (.cells #[.slice (some ⟨g, 0, none⟩) np np, .slice (some ⟨h, 0, none⟩) nb nb] 34)
  have uS : (w.alloc (.cells #[.slice (some ⟨g, 0, none⟩) np np, .slice (some ⟨h, 0, none⟩) nb nb] 34)).heap.size = w.heap.size + 1 := by simp
  generalize w.alloc (.cells #[.slice (some ⟨g, 0, none⟩) np np, .slice (some ⟨h, 0, none⟩) nb nb] 34) = W1 at *
  obtain ⟨y0, y1, y2, y3⟩ := box4 (p := pt) W1 37
  have yB := alloc_below W1 (.cells #[.bool pt.s, .int .i64 pt.H.toInt, .int .i64 pt.L.toInt, .int .i64 pt.b] 37)
  have yL := alloc_lt W1 (.cells #[.bool pt.s, .int .i64 pt.H.toInt, .int .i64 pt.L.toInt, .int .i64 pt.b] 37)
  have yS : (W1.alloc (.cells #[.bool pt.s, .int .i64 pt.H.toInt, .int .i64 pt.L.toInt, .int .i64 pt.b] 37)).heap.size = W1.heap.size + 1 := by simp
  generalize W1.alloc (.cells #[.bool pt.s, .int .i64 pt.H.toInt, .int .i64 pt.L.toInt, .int .i64 pt.b] 37) = W2 at *
  rw [uS] at y0 y1 y2 y3 yL yS
  have kF := frz2 W2 34 (.slice none 0 0) (.slice none 0 0)
  obtain ⟨k0, k1⟩ := box2 (u := .slice none 0 0) (v := .slice none 0 0) W2 34
  have kB := alloc_below W2 (.cells #[.slice none 0 0, .slice none 0 0] 34)
  have kL := alloc_lt W2 (.cells #[.slice none 0 0, .slice none 0 0] 34)
  have kS : (W2.alloc (.cells #[.slice none 0 0, .slice none 0 0] 34)).heap.size = W2.heap.size + 1 := by simp
  generalize W2.alloc (.cells #[.slice none 0 0, .slice none 0 0] 34) = W3 at *
  rw [yS] at k0 k1 kL kS
  rw [yS] at kF
  have l0 : w.heap.size < W2.heap.size := by omega
  have l1 : w.heap.size + 1 < W2.heap.size := by omega
  have U0 := (kB.cell l0).trans ((yB.cell uL).trans u0)
  have U1 := (kB.cell l0).trans ((yB.cell uL).trans u1)
  have UF : ∀ o, W3.frozen? ⟨w.heap.size, o, none⟩ = false := fun o => (kB.frozen l0).trans ((yB.frozen uL).trans (uF o))
  have Y0 := (kB.cell l1).trans y0
  have Y1 := (kB.cell l1).trans y1
  have Y2 := (kB.cell l1).trans y2
  have Y3 := (kB.cell l1).trans y3
  have acc0 := hidP ((uB.trans (yB.mono uB.size)).trans (kB.mono (Nat.le_trans uB.size yB.size)))
  have UL : w.heap.size < W3.heap.size := by omega
  have YL : w.heap.size + 1 < W3.heap.size := by omega
  have kL3 : w.heap.size + 1 + 1 < W3.heap.size := by omega
  have UL9 := UL
  have kL9 := kL3
  clear uB yB kB uS yS kS u0 u1 y0 y1 y2 y3 uL yL kL uF l0 l1
  have U1c := U1
  have ac3_W3 := hidP (Below.refl W3.heap.size W3)
  refine (HOw.out _ acc0.out).mono ?_
  rintro e w4 ⟨a, c, b, d, rfl, op, ob, hne, hb4⟩
  have pb0_w4 := (hb4.cell UL).trans U0
  have pb1_w4 := (hb4.cell UL).trans U1
  have pbF_w4 : ∀ o, w4.frozen? ⟨w.heap.size, o, none⟩ = false := fun o => (hb4.frozen UL).trans (UF o)
  have pbL_w4 : w.heap.size < w4.heap.size := Nat.lt_of_lt_of_le UL hb4.size
  have at0_w4 := (hb4.cell YL).trans Y0
  have at1_w4 := (hb4.cell YL).trans Y1
  have at2_w4 := (hb4.cell YL).trans Y2
  have at3_w4 := (hb4.cell YL).trans Y3
  have atL_w4 : w.heap.size + 1 < w4.heap.size := Nat.lt_of_lt_of_le YL hb4.size
  have rs0_w4 := (hb4.cell kL3).trans k0
  have rs1_w4 := (hb4.cell kL3).trans k1
  have rsF_w4 : ∀ o, w4.frozen? ⟨w.heap.size + 1 + 1, o, none⟩ = false := fun o => (hb4.frozen kL3).trans (kF o)
  have rsL_w4 : w.heap.size + 1 + 1 < w4.heap.size := Nat.lt_of_lt_of_le kL3 hb4.size
  have acc_w4 := hidP (acc0.out.trans (hb4.mono acc0.out.size))
  have ac3_w4 := hidP (ac3_W3.out.trans (hb4.mono ac3_W3.out.size))
  have w43c := hb4.size
  have HLB4 := hidP (fun j hj => (OwnG.lt op j hj).2)
  have oP_w4 := hidP op
  have oB_w4 := hidP ob
  have HNE := hidP hne
  clear UF U0 U1 UL Y0 Y1 Y2 Y3 YL kF k0 k1 kL3 acc0 ac3_W3 hb4 op ob hne
  go_wp2_with fail
  have oF := frz2 w4 34 (.slice a np c) (.slice b nb d)
  obtain ⟨o0, o1⟩ := box2 (u := .slice a np c) (v := .slice b nb d) w4 34
  have oB := alloc_below w4 (.cells #[.slice a np c, .slice b nb d] 34)
  have oL := alloc_lt w4 (.cells #[.slice a np c, .slice b nb d] 34)
  have oS : (w4.alloc (.cells #[.slice a np c, .slice b nb d] 34)).heap.size = w4.heap.size + 1 := by simp
  generalize w4.alloc (.cells #[.slice a np c, .slice b nb d] 34) = W5 at *
  have hb5 := oB
  have pb0_W5 := (hb5.cell pbL_w4).trans pb0_w4
  have pb1_W5 := (hb5.cell pbL_w4).trans pb1_w4
  have pbF_W5 : ∀ o, W5.frozen? ⟨w.heap.size, o, none⟩ = false := fun o => (hb5.frozen pbL_w4).trans (pbF_w4 o)
  have pbL_W5 : w.heap.size < W5.heap.size := Nat.lt_of_lt_of_le pbL_w4 hb5.size
  have at0_W5 := (hb5.cell atL_w4).trans at0_w4
  have at1_W5 := (hb5.cell atL_w4).trans at1_w4
  have at2_W5 := (hb5.cell atL_w4).trans at2_w4
  have at3_W5 := (hb5.cell atL_w4).trans at3_w4
  have atL_W5 : w.heap.size + 1 < W5.heap.size := Nat.lt_of_lt_of_le atL_w4 hb5.size
  have rs0_W5 := (hb5.cell rsL_w4).trans rs0_w4
  have rs1_W5 := (hb5.cell rsL_w4).trans rs1_w4
  have rsF_W5 : ∀ o, W5.frozen? ⟨w.heap.size + 1 + 1, o, none⟩ = false := fun o => (hb5.frozen rsL_w4).trans (rsF_w4 o)
  have rsL_W5 : w.heap.size + 1 + 1 < W5.heap.size := Nat.lt_of_lt_of_le rsL_w4 hb5.size
  have oP_W5 := hidP (OwnG.later oP_w4.out hb5)
  have oB_W5 := hidP (OwnG.later oB_w4.out hb5)
  have acc_W5 := hidP (acc_w4.out.trans (hb5.mono acc_w4.out.size))
  have ac3_W5 := hidP (ac3_w4.out.trans (hb5.mono ac3_w4.out.size))
  clear pbF_w4 pb0_w4 pb1_w4 pbL_w4 at0_w4 at1_w4 at2_w4 at3_w4 atL_w4 rsF_w4 rs0_w4 rs1_w4 rsL_w4 oP_w4 oB_w4 acc_w4 ac3_w4 hb5 oB oS
  refine (HPO.out _ acc_W5.out).mono ?_
  rintro e w6 ⟨rfl, hb6⟩
  have pb0_w6 := (hb6.cell pbL_W5).trans pb0_W5
  have pb1_w6 := (hb6.cell pbL_W5).trans pb1_W5
  have pbF_w6 : ∀ o, w6.frozen? ⟨w.heap.size, o, none⟩ = false := fun o => (hb6.frozen pbL_W5).trans (pbF_W5 o)
  have pbL_w6 : w.heap.size < w6.heap.size := Nat.lt_of_lt_of_le pbL_W5 hb6.size
  have at0_w6 := (hb6.cell atL_W5).trans at0_W5
  have at1_w6 := (hb6.cell atL_W5).trans at1_W5
  have at2_w6 := (hb6.cell atL_W5).trans at2_W5
  have at3_w6 := (hb6.cell atL_W5).trans at3_W5
  have atL_w6 : w.heap.size + 1 < w6.heap.size := Nat.lt_of_lt_of_le atL_W5 hb6.size
  have rs0_w6 := (hb6.cell rsL_W5).trans rs0_W5
  have rs1_w6 := (hb6.cell rsL_W5).trans rs1_W5
  have rsF_w6 : ∀ o, w6.frozen? ⟨w.heap.size + 1 + 1, o, none⟩ = false := fun o => (hb6.frozen rsL_W5).trans (rsF_W5 o)
  have rsL_w6 : w.heap.size + 1 + 1 < w6.heap.size := Nat.lt_of_lt_of_le rsL_W5 hb6.size
  have ot0_w6 := (hb6.cell oL).trans o0
  have ot1_w6 := (hb6.cell oL).trans o1
  have otF_w6 : ∀ o, w6.frozen? ⟨w4.heap.size, o, none⟩ = false := fun o => (hb6.frozen oL).trans (oF o)
  have otL_w6 : w4.heap.size < w6.heap.size := Nat.lt_of_lt_of_le oL hb6.size
  have oP_w6 := hidP (OwnG.later oP_W5.out hb6)
  have oB_w6 := hidP (OwnG.later oB_W5.out hb6)
  have acc_w6 := hidP (acc_W5.out.trans (hb6.mono acc_W5.out.size))
  have ac3_w6 := hidP (ac3_W5.out.trans (hb6.mono ac3_W5.out.size))
  clear pbF_W5 pb0_W5 pb1_W5 pbL_W5 at0_W5 at1_W5 at2_W5 at3_W5 atL_W5 rsF_W5 rs0_W5 rs1_W5 rsL_W5 oF o0 o1 oL oP_W5 oB_W5 acc_W5 ac3_W5 hb6
  go_wp2_with fail
  refine (HPk.out _).mono ?_
  rintro e w7 ⟨rfl, hb7⟩
  have pb0_w7 := (hb7.cell pbL_w6).trans pb0_w6
  have pb1_w7 := (hb7.cell pbL_w6).trans pb1_w6
  have pbF_w7 : ∀ o, w7.frozen? ⟨w.heap.size, o, none⟩ = false := fun o => (hb7.frozen pbL_w6).trans (pbF_w6 o)
  have pbL_w7 : w.heap.size < w7.heap.size := Nat.lt_of_lt_of_le pbL_w6 hb7.size
  have at0_w7 := (hb7.cell atL_w6).trans at0_w6
  have at1_w7 := (hb7.cell atL_w6).trans at1_w6
  have at2_w7 := (hb7.cell atL_w6).trans at2_w6
  have at3_w7 := (hb7.cell atL_w6).trans at3_w6
  have atL_w7 : w.heap.size + 1 < w7.heap.size := Nat.lt_of_lt_of_le atL_w6 hb7.size
  have rs0_w7 := (hb7.cell rsL_w6).trans rs0_w6
  have rs1_w7 := (hb7.cell rsL_w6).trans rs1_w6
  have rsF_w7 : ∀ o, w7.frozen? ⟨w.heap.size + 1 + 1, o, none⟩ = false := fun o => (hb7.frozen rsL_w6).trans (rsF_w6 o)
  have rsL_w7 : w.heap.size + 1 + 1 < w7.heap.size := Nat.lt_of_lt_of_le rsL_w6 hb7.size
  have ot0_w7 := (hb7.cell otL_w6).trans ot0_w6
  have ot1_w7 := (hb7.cell otL_w6).trans ot1_w6
  have otF_w7 : ∀ o, w7.frozen? ⟨w4.heap.size, o, none⟩ = false := fun o => (hb7.frozen otL_w6).trans (otF_w6 o)
  have otL_w7 : w4.heap.size < w7.heap.size := Nat.lt_of_lt_of_le otL_w6 hb7.size
  have oP_w7 := hidP (OwnG.later oP_w6.out hb7)
  have oB_w7 := hidP (OwnG.later oB_w6.out hb7)
  have acc_w7 := hidP (acc_w6.out.trans (hb7.mono acc_w6.out.size))
  have ac3_w7 := hidP (ac3_w6.out.trans (hb7.mono ac3_w6.out.size))
  clear pbF_w6 pb0_w6 pb1_w6 pbL_w6 at0_w6 at1_w6 at2_w6 at3_w6 atL_w6 rsF_w6 rs0_w6 rs1_w6 rsL_w6 otF_w6 ot0_w6 ot1_w6 otL_w6 oP_w6 oB_w6 acc_w6 ac3_w6 hb7
  go_wp2_with fail
  refine (HOO.out _).mono ?_
  rintro e w8 ⟨rfl, h8⟩
  subst h8
  go_wp2_with fail
  refine bodyPost_ret (v := .tuple #[.agg #[.slice a np c, .slice b nb d], .int .i64 1]) (by simp [results, Tryz.results14, go_sem, rs0_w7, rs1_w7]) rfl ⟨_, _, _, _, rfl, (OwnG.set2 oP_w7.out kL9).mono (Nat.le_of_lt UL9), (OwnG.set2 oB_w7.out kL9).mono (Nat.le_of_lt UL9), HNE.out, below_set2 acc_w7.out (by omega)⟩

end Go.Proofs.YtmbmekcppmbokaaGreat

/-
  The specification's Free where the block is not there.
-/
namespace Go.Proofs.YtmbmekcppmbokaaGreat
open Go.RowKit

set_option maxRecDepth 10000 in
set_option maxHeartbeats 4000000 in
theorem sFree_d (pt : Pf) (ow : ByteArray) (how : ow.size ≤ 9223372036854775807) (g h : Nat) (np nb : Nat) (ps : List Pl) (bs : List Bk) (w : World) (hnp : np = ps.length) (hnb : nb = bs.length) (hP : RowG KPl w (some ⟨g, 0, none⟩) ps) (hK : RowG KBk w (some ⟨h, 0, none⟩) bs) (hl : np ≤ 1048576) (hl' : nb ≤ 1048576) (hst : ∀ q ∈ bs, q.t.size ≤ 9223372036854775807) (hr : planB ps bs = true) (hk : pt.pk = true) (ho : ownB ow = true) (hq : ∀ q ∈ bs, q.p = pt → (q.t.toList == ow.toList) = false) :
    Calls Tryz.prog 14 #[.agg #[.slice (some ⟨g, 0, none⟩) np np, .slice (some ⟨h, 0, none⟩) nb nb], .agg #[.bool pt.s, .int .i64 pt.H.toInt, .int .i64 pt.L.toInt, .int .i64 pt.b], .string ow] w fun e w' => ∃ a c b d, e = .returned (.tuple #[.agg #[.slice a np c, .slice b nb d], .int .i64 (4)]) ∧ OwnG KPl 60 w' w.heap.size (.slice a np c) (ps) ∧ OwnG KBk 62 w' w.heap.size (.slice b nb d) (bs) ∧ (∀ k, (Value.slice a np c).ownBlock = some k → (Value.slice b nb d).ownBlock ≠ some k) ∧ Below w.heap.size w w' := by
  have HOw := hidP (fun W h' => l5Copy_any (some ⟨g, 0, none⟩) np np (some ⟨h, 0, none⟩) nb nb ps bs W hnp hnb (hP.later h') (hK.later h') (fun e => by cases e) (fun e => by cases e) hl hl')
  have HPO := hidP (fun W h' => sPlanOk_any (some ⟨g, 0, none⟩) np np (some ⟨h, 0, none⟩) nb nb ps bs W hnp hnb (hP.later h') (hK.later h') (by omega) (by omega) hst)
  have HPk := hidP (sPrefixOk_any pt.s pt.H pt.L pt.b)
  change Hid (∀ w, Calls Tryz.prog 20 _ w fun e w' => e = .returned (.bool pt.pk) ∧ Below w.heap.size w w') at HPk
  have HOO := hidP (fun W => sOwnerOk_any ow W how)
  have h60 : nb ≤ 60 := by have := (plan_bs hr).1.2; omega
  have HN := hidP (And.intro hnp hnb)
  have HRB := hidP hK
  clear hP hK hnp hnb hst how
  rw [hr] at HPO
  rw [hk] at HPk
  rw [ho] at HOO
  have HQ := hidP hq
  clear hq
  go_enter Tryz.func14, Tryz.ntmps14
  go_wp2_with fail
  have uF := frz2 w 34 (.slice (some ⟨g, 0, none⟩) np np) (.slice (some ⟨h, 0, none⟩) nb nb)
  obtain ⟨u0, u1⟩ := box2 (u := .slice (some ⟨g, 0, none⟩) np np) (v := .slice (some ⟨h, 0, none⟩) nb nb) w 34
  have uB := alloc_below w (.cells #[.slice (some ⟨g, 0, none⟩) np np, .slice (some ⟨h, 0, none⟩) nb nb] 34)
  have uL := alloc_lt w (.cells #[.slice (some ⟨g, 0, none⟩) np np, .slice (some ⟨h, 0, none⟩) nb nb] 34)
  have uS : (w.alloc (.cells #[.slice (some ⟨g, 0, none⟩) np np, .slice (some ⟨h, 0, none⟩) nb nb] 34)).heap.size = w.heap.size + 1 := by simp
  generalize w.alloc (.cells #[.slice (some ⟨g, 0, none⟩) np np, .slice (some ⟨h, 0, none⟩) nb nb] 34) = W1 at *
  obtain ⟨y0, y1, y2, y3⟩ := box4 (p := pt) W1 37
  have yB := alloc_below W1 (.cells #[.bool pt.s, .int .i64 pt.H.toInt, .int .i64 pt.L.toInt, .int .i64 pt.b] 37)
  have yL := alloc_lt W1 (.cells #[.bool pt.s, .int .i64 pt.H.toInt, .int .i64 pt.L.toInt, .int .i64 pt.b] 37)
  have yS : (W1.alloc (.cells #[.bool pt.s, .int .i64 pt.H.toInt, .int .i64 pt.L.toInt, .int .i64 pt.b] 37)).heap.size = W1.heap.size + 1 := by simp
  generalize W1.alloc (.cells #[.bool pt.s, .int .i64 pt.H.toInt, .int .i64 pt.L.toInt, .int .i64 pt.b] 37) = W2 at *
  rw [uS] at y0 y1 y2 y3 yL yS
  have kF := frz2 W2 34 (.slice none 0 0) (.slice none 0 0)
  obtain ⟨k0, k1⟩ := box2 (u := .slice none 0 0) (v := .slice none 0 0) W2 34
  have kB := alloc_below W2 (.cells #[.slice none 0 0, .slice none 0 0] 34)
  have kL := alloc_lt W2 (.cells #[.slice none 0 0, .slice none 0 0] 34)
  have kS : (W2.alloc (.cells #[.slice none 0 0, .slice none 0 0] 34)).heap.size = W2.heap.size + 1 := by simp
  generalize W2.alloc (.cells #[.slice none 0 0, .slice none 0 0] 34) = W3 at *
  rw [yS] at k0 k1 kL kS
  rw [yS] at kF
  have l0 : w.heap.size < W2.heap.size := by omega
  have l1 : w.heap.size + 1 < W2.heap.size := by omega
  have U0 := (kB.cell l0).trans ((yB.cell uL).trans u0)
  have U1 := (kB.cell l0).trans ((yB.cell uL).trans u1)
  have UF : ∀ o, W3.frozen? ⟨w.heap.size, o, none⟩ = false := fun o => (kB.frozen l0).trans ((yB.frozen uL).trans (uF o))
  have Y0 := (kB.cell l1).trans y0
  have Y1 := (kB.cell l1).trans y1
  have Y2 := (kB.cell l1).trans y2
  have Y3 := (kB.cell l1).trans y3
  have acc0 := hidP ((uB.trans (yB.mono uB.size)).trans (kB.mono (Nat.le_trans uB.size yB.size)))
  have UL : w.heap.size < W3.heap.size := by omega
  have YL : w.heap.size + 1 < W3.heap.size := by omega
  have kL3 : w.heap.size + 1 + 1 < W3.heap.size := by omega
  have UL9 := UL
  have kL9 := kL3
  clear uB yB kB uS yS kS u0 u1 y0 y1 y2 y3 uL yL kL uF l0 l1
  have U1c := U1
  have ac3_W3 := hidP (Below.refl W3.heap.size W3)
  refine (HOw.out _ acc0.out).mono ?_
  rintro e w4 ⟨a, c, b, d, rfl, op, ob, hne, hb4⟩
  have pb0_w4 := (hb4.cell UL).trans U0
  have pb1_w4 := (hb4.cell UL).trans U1
  have pbF_w4 : ∀ o, w4.frozen? ⟨w.heap.size, o, none⟩ = false := fun o => (hb4.frozen UL).trans (UF o)
  have pbL_w4 : w.heap.size < w4.heap.size := Nat.lt_of_lt_of_le UL hb4.size
  have at0_w4 := (hb4.cell YL).trans Y0
  have at1_w4 := (hb4.cell YL).trans Y1
  have at2_w4 := (hb4.cell YL).trans Y2
  have at3_w4 := (hb4.cell YL).trans Y3
  have atL_w4 : w.heap.size + 1 < w4.heap.size := Nat.lt_of_lt_of_le YL hb4.size
  have rs0_w4 := (hb4.cell kL3).trans k0
  have rs1_w4 := (hb4.cell kL3).trans k1
  have rsF_w4 : ∀ o, w4.frozen? ⟨w.heap.size + 1 + 1, o, none⟩ = false := fun o => (hb4.frozen kL3).trans (kF o)
  have rsL_w4 : w.heap.size + 1 + 1 < w4.heap.size := Nat.lt_of_lt_of_le kL3 hb4.size
  have acc_w4 := hidP (acc0.out.trans (hb4.mono acc0.out.size))
  have ac3_w4 := hidP (ac3_W3.out.trans (hb4.mono ac3_W3.out.size))
  have w43c := hb4.size
  have HLB4 := hidP (fun j hj => (OwnG.lt op j hj).2)
  have oP_w4 := hidP op
  have oB_w4 := hidP ob
  have HNE := hidP hne
  clear UF U0 U1 UL Y0 Y1 Y2 Y3 YL kF k0 k1 kL3 acc0 ac3_W3 hb4 op ob hne
  go_wp2_with fail
  have oF := frz2 w4 34 (.slice a np c) (.slice b nb d)
  obtain ⟨o0, o1⟩ := box2 (u := .slice a np c) (v := .slice b nb d) w4 34
  have oB := alloc_below w4 (.cells #[.slice a np c, .slice b nb d] 34)
  have oL := alloc_lt w4 (.cells #[.slice a np c, .slice b nb d] 34)
  have oS : (w4.alloc (.cells #[.slice a np c, .slice b nb d] 34)).heap.size = w4.heap.size + 1 := by simp
  generalize w4.alloc (.cells #[.slice a np c, .slice b nb d] 34) = W5 at *
  have hb5 := oB
  have pb0_W5 := (hb5.cell pbL_w4).trans pb0_w4
  have pb1_W5 := (hb5.cell pbL_w4).trans pb1_w4
  have pbF_W5 : ∀ o, W5.frozen? ⟨w.heap.size, o, none⟩ = false := fun o => (hb5.frozen pbL_w4).trans (pbF_w4 o)
  have pbL_W5 : w.heap.size < W5.heap.size := Nat.lt_of_lt_of_le pbL_w4 hb5.size
  have at0_W5 := (hb5.cell atL_w4).trans at0_w4
  have at1_W5 := (hb5.cell atL_w4).trans at1_w4
  have at2_W5 := (hb5.cell atL_w4).trans at2_w4
  have at3_W5 := (hb5.cell atL_w4).trans at3_w4
  have atL_W5 : w.heap.size + 1 < W5.heap.size := Nat.lt_of_lt_of_le atL_w4 hb5.size
  have rs0_W5 := (hb5.cell rsL_w4).trans rs0_w4
  have rs1_W5 := (hb5.cell rsL_w4).trans rs1_w4
  have rsF_W5 : ∀ o, W5.frozen? ⟨w.heap.size + 1 + 1, o, none⟩ = false := fun o => (hb5.frozen rsL_w4).trans (rsF_w4 o)
  have rsL_W5 : w.heap.size + 1 + 1 < W5.heap.size := Nat.lt_of_lt_of_le rsL_w4 hb5.size
  have oP_W5 := hidP (OwnG.later oP_w4.out hb5)
  have oB_W5 := hidP (OwnG.later oB_w4.out hb5)
  have acc_W5 := hidP (acc_w4.out.trans (hb5.mono acc_w4.out.size))
  have ac3_W5 := hidP (ac3_w4.out.trans (hb5.mono ac3_w4.out.size))
  clear pbF_w4 pb0_w4 pb1_w4 pbL_w4 at0_w4 at1_w4 at2_w4 at3_w4 atL_w4 rsF_w4 rs0_w4 rs1_w4 rsL_w4 oP_w4 oB_w4 acc_w4 ac3_w4 hb5 oB oS
  refine (HPO.out _ acc_W5.out).mono ?_
  rintro e w6 ⟨rfl, hb6⟩
  have pb0_w6 := (hb6.cell pbL_W5).trans pb0_W5
  have pb1_w6 := (hb6.cell pbL_W5).trans pb1_W5
  have pbF_w6 : ∀ o, w6.frozen? ⟨w.heap.size, o, none⟩ = false := fun o => (hb6.frozen pbL_W5).trans (pbF_W5 o)
  have pbL_w6 : w.heap.size < w6.heap.size := Nat.lt_of_lt_of_le pbL_W5 hb6.size
  have at0_w6 := (hb6.cell atL_W5).trans at0_W5
  have at1_w6 := (hb6.cell atL_W5).trans at1_W5
  have at2_w6 := (hb6.cell atL_W5).trans at2_W5
  have at3_w6 := (hb6.cell atL_W5).trans at3_W5
  have atL_w6 : w.heap.size + 1 < w6.heap.size := Nat.lt_of_lt_of_le atL_W5 hb6.size
  have rs0_w6 := (hb6.cell rsL_W5).trans rs0_W5
  have rs1_w6 := (hb6.cell rsL_W5).trans rs1_W5
  have rsF_w6 : ∀ o, w6.frozen? ⟨w.heap.size + 1 + 1, o, none⟩ = false := fun o => (hb6.frozen rsL_W5).trans (rsF_W5 o)
  have rsL_w6 : w.heap.size + 1 + 1 < w6.heap.size := Nat.lt_of_lt_of_le rsL_W5 hb6.size
  have ot0_w6 := (hb6.cell oL).trans o0
  have ot1_w6 := (hb6.cell oL).trans o1
  have otF_w6 : ∀ o, w6.frozen? ⟨w4.heap.size, o, none⟩ = false := fun o => (hb6.frozen oL).trans (oF o)
  have otL_w6 : w4.heap.size < w6.heap.size := Nat.lt_of_lt_of_le oL hb6.size
  have oP_w6 := hidP (OwnG.later oP_W5.out hb6)
  have oB_w6 := hidP (OwnG.later oB_W5.out hb6)
  have acc_w6 := hidP (acc_W5.out.trans (hb6.mono acc_W5.out.size))
  have ac3_w6 := hidP (ac3_W5.out.trans (hb6.mono ac3_W5.out.size))
  clear pbF_W5 pb0_W5 pb1_W5 pbL_W5 at0_W5 at1_W5 at2_W5 at3_W5 atL_W5 rsF_W5 rs0_W5 rs1_W5 rsL_W5 oF o0 o1 oL oP_W5 oB_W5 acc_W5 ac3_W5 hb6
  go_wp2_with fail
  refine (HPk.out _).mono ?_
  rintro e w7 ⟨rfl, hb7⟩
  have pb0_w7 := (hb7.cell pbL_w6).trans pb0_w6
  have pb1_w7 := (hb7.cell pbL_w6).trans pb1_w6
  have pbF_w7 : ∀ o, w7.frozen? ⟨w.heap.size, o, none⟩ = false := fun o => (hb7.frozen pbL_w6).trans (pbF_w6 o)
  have pbL_w7 : w.heap.size < w7.heap.size := Nat.lt_of_lt_of_le pbL_w6 hb7.size
  have at0_w7 := (hb7.cell atL_w6).trans at0_w6
  have at1_w7 := (hb7.cell atL_w6).trans at1_w6
  have at2_w7 := (hb7.cell atL_w6).trans at2_w6
  have at3_w7 := (hb7.cell atL_w6).trans at3_w6
  have atL_w7 : w.heap.size + 1 < w7.heap.size := Nat.lt_of_lt_of_le atL_w6 hb7.size
  have rs0_w7 := (hb7.cell rsL_w6).trans rs0_w6
  have rs1_w7 := (hb7.cell rsL_w6).trans rs1_w6
  have rsF_w7 : ∀ o, w7.frozen? ⟨w.heap.size + 1 + 1, o, none⟩ = false := fun o => (hb7.frozen rsL_w6).trans (rsF_w6 o)
  have rsL_w7 : w.heap.size + 1 + 1 < w7.heap.size := Nat.lt_of_lt_of_le rsL_w6 hb7.size
  have ot0_w7 := (hb7.cell otL_w6).trans ot0_w6
  have ot1_w7 := (hb7.cell otL_w6).trans ot1_w6
  have otF_w7 : ∀ o, w7.frozen? ⟨w4.heap.size, o, none⟩ = false := fun o => (hb7.frozen otL_w6).trans (otF_w6 o)
  have otL_w7 : w4.heap.size < w7.heap.size := Nat.lt_of_lt_of_le otL_w6 hb7.size
  have oP_w7 := hidP (OwnG.later oP_w6.out hb7)
  have oB_w7 := hidP (OwnG.later oB_w6.out hb7)
  have acc_w7 := hidP (acc_w6.out.trans (hb7.mono acc_w6.out.size))
  have ac3_w7 := hidP (ac3_w6.out.trans (hb7.mono ac3_w6.out.size))
  clear pbF_w6 pb0_w6 pb1_w6 pbL_w6 at0_w6 at1_w6 at2_w6 at3_w6 atL_w6 rsF_w6 rs0_w6 rs1_w6 rsL_w6 otF_w6 ot0_w6 ot1_w6 otL_w6 oP_w6 oB_w6 acc_w6 ac3_w6 hb7
  go_wp2_with fail
  refine (HOO.out _).mono ?_
  rintro e w8 ⟨rfl, h8⟩
  subst h8
  go_wp2_with fail
  go_loopw [9] (fun t9 wr => ∃ k : Nat, k ≤ nb ∧ t9 = .int .i64 k ∧ Below w8.heap.size w8 wr) (fun t9 _ => nb - (intOf t9).toNat)
  case atStart => exact ⟨0, Nat.zero_le _, rfl, Below.refl _ _⟩
  case round =>
    obtain ⟨k, hkn, rfl, hbr⟩ := hrel
    have HBr := hidP hbr
    have pb0_wr := (hbr.cell pbL_w7).trans pb0_w7
    have pb1_wr := (hbr.cell pbL_w7).trans pb1_w7
    have pbF_wr : ∀ o, wr.frozen? ⟨w.heap.size, o, none⟩ = false := fun o => (hbr.frozen pbL_w7).trans (pbF_w7 o)
    have pbL_wr : w.heap.size < wr.heap.size := Nat.lt_of_lt_of_le pbL_w7 hbr.size
    have at0_wr := (hbr.cell atL_w7).trans at0_w7
    have at1_wr := (hbr.cell atL_w7).trans at1_w7
    have at2_wr := (hbr.cell atL_w7).trans at2_w7
    have at3_wr := (hbr.cell atL_w7).trans at3_w7
    have atL_wr : w.heap.size + 1 < wr.heap.size := Nat.lt_of_lt_of_le atL_w7 hbr.size
    have rs0_wr := (hbr.cell rsL_w7).trans rs0_w7
    have rs1_wr := (hbr.cell rsL_w7).trans rs1_w7
    have rsF_wr : ∀ o, wr.frozen? ⟨w.heap.size + 1 + 1, o, none⟩ = false := fun o => (hbr.frozen rsL_w7).trans (rsF_w7 o)
    have rsL_wr : w.heap.size + 1 + 1 < wr.heap.size := Nat.lt_of_lt_of_le rsL_w7 hbr.size
    have ot0_wr := (hbr.cell otL_w7).trans ot0_w7
    have ot1_wr := (hbr.cell otL_w7).trans ot1_w7
    have otF_wr : ∀ o, wr.frozen? ⟨w4.heap.size, o, none⟩ = false := fun o => (hbr.frozen otL_w7).trans (otF_w7 o)
    have otL_wr : w4.heap.size < wr.heap.size := Nat.lt_of_lt_of_le otL_w7 hbr.size
    have oP_wr := hidP (OwnG.later oP_w7.out hbr)
    have oB_wr := hidP (OwnG.later oB_w7.out hbr)
    have acc_wr := hidP (acc_w7.out.trans (hbr.mono acc_w7.out.size))
    have ac3_wr := hidP (ac3_w7.out.trans (hbr.mono ac3_w7.out.size))
    clear pbF_w7 pb0_w7 pb1_w7 pbL_w7 at0_w7 at1_w7 at2_w7 at3_w7 atL_w7 rsF_w7 rs0_w7 rs1_w7 rsL_w7 otF_w7 ot0_w7 ot1_w7 otL_w7 oP_w7 oB_w7 acc_w7 ac3_w7 hbr
    by_cases hlt : k < nb
    · skip
      have hkb : k < bs.length := by have := HN.out.2; omega
      obtain ⟨p', o', q, ha, hpL, hq, c0, c1, c2, c3, c4⟩ := rowBk (HRB.out.later acc_wr.out) k hkb
      simp only [Option.some.injEq, Addr.mk.injEq, and_true] at ha
      obtain ⟨rfl, rfl⟩ := ha
      rw [Nat.zero_add] at c0 c1 c2 c3 c4
      have eqp := eqPfx q.p pt
      have gk : decide ((k : Int) < (nb : Int)) = true := decide_eq_true (by omega)
      have gk2 : (k : Int) < (nb : Int) := by omega
      have gk3 : (0 : Int) ≤ (k : Int) := by omega
      have hq2 := HQ.out q (List.mem_of_getElem? hq)
      have hpeq := peq_iff (p := q.p) (q := pt)
      cases he : peqB q.p pt
      · rw [he] at eqp
        clear hq2 hpeq
        go_wp2_with fail
        go_quiet (fail)
        go_wp2_with fail
        go_roundw
        case rel => exact ⟨k + 1, by omega, by go_num, below_drewN HBr.out _⟩
        case measure => simp [intOf]; omega
      · have hq3 := hq2 (hpeq.1 he)
        rw [he] at eqp
        clear hq2 hpeq
        go_wp2_with fail
        go_quiet (fail)
        go_wp2_with fail
        go_roundw
        case rel => exact ⟨k + 1, by omega, by go_num, below_drewN HBr.out _⟩
        case measure => simp [intOf]; omega
    · have gz : decide ((k : Int) < (nb : Int)) = false := decide_eq_false (by omega)
      have gz2 : ¬ ((k : Int) < (nb : Int)) := by omega
      go_wp2_with fail
      refine bodyPost_ret (v := .tuple #[.agg #[.slice a np c, .slice b nb d], .int .i64 4]) (by simp [results, Tryz.results14, go_sem, rs0_wr, rs1_wr]) rfl ⟨_, _, _, _, rfl, (OwnG.set2 oP_wr.out kL9).mono (Nat.le_of_lt UL9), (OwnG.set2 oB_wr.out kL9).mono (Nat.le_of_lt UL9), HNE.out, below_set2 acc_wr.out (by omega)⟩

end Go.Proofs.YtmbmekcppmbokaaGreat

/-
  The specification's Free where the block goes.
-/
namespace Go.Proofs.YtmbmekcppmbokaaGreat
open Go.RowKit

set_option maxRecDepth 10000 in
set_option maxHeartbeats 4000000 in
theorem sFree_e0 (pt : Pf) (ow : ByteArray) (how : ow.size ≤ 9223372036854775807) (g h : Nat) (np nb : Nat) (ps : List Pl) (bs : List Bk) (w : World) (hnp : np = ps.length) (hnb : nb = bs.length) (hP : RowG KPl w (some ⟨g, 0, none⟩) ps) (hK : RowG KBk w (some ⟨h, 0, none⟩) bs) (hl : np ≤ 1048576) (hl' : nb ≤ 1048576) (hst : ∀ q ∈ bs, q.t.size ≤ 9223372036854775807) (hr : planB ps bs = true) (hk : pt.pk = true) (ho : ownB ow = true) (i : Nat) (r : Bk) (hi : bs[i]? = some r) (hqp : r.p = pt) (hqt : (r.t.toList == ow.toList) = true) (hcj : nb = i + 1) :
    Calls Tryz.prog 14 #[.agg #[.slice (some ⟨g, 0, none⟩) np np, .slice (some ⟨h, 0, none⟩) nb nb], .agg #[.bool pt.s, .int .i64 pt.H.toInt, .int .i64 pt.L.toInt, .int .i64 pt.b], .string ow] w fun e w' => ∃ a c b d, e = .returned (.tuple #[.agg #[.slice a np c, .slice b (nb - 1) d], .int .i64 (0)]) ∧ OwnG KPl 60 w' w.heap.size (.slice a np c) (ps) ∧ OwnG KBk 62 w' w.heap.size (.slice b (nb - 1) d) (bs.eraseIdx i) ∧ (∀ k, (Value.slice a np c).ownBlock = some k → (Value.slice b (nb - 1) d).ownBlock ≠ some k) ∧ Below w.heap.size w w' := by
  have HOw := hidP (fun W h' => l5Copy_any (some ⟨g, 0, none⟩) np np (some ⟨h, 0, none⟩) nb nb ps bs W hnp hnb (hP.later h') (hK.later h') (fun e => by cases e) (fun e => by cases e) hl hl')
  have HPO := hidP (fun W h' => sPlanOk_any (some ⟨g, 0, none⟩) np np (some ⟨h, 0, none⟩) nb nb ps bs W hnp hnb (hP.later h') (hK.later h') (by omega) (by omega) hst)
  have HPk := hidP (sPrefixOk_any pt.s pt.H pt.L pt.b)
  change Hid (∀ w, Calls Tryz.prog 20 _ w fun e w' => e = .returned (.bool pt.pk) ∧ Below w.heap.size w w') at HPk
  have HOO := hidP (fun W => sOwnerOk_any ow W how)
  have h60 : nb ≤ 60 := by have := (plan_bs hr).1.2; omega
  have HN := hidP (And.intro hnp hnb)
  have HRB := hidP hK
  clear hP hK hnp hnb hst how
  rw [hr] at HPO
  rw [hk] at HPk
  rw [ho] at HOO
  have hap := apart_of (plan_bs hr).2.2
  have hin : i < bs.length := (List.getElem?_eq_some_iff.1 hi).1
  have hne : ∀ (k : Nat) (q : Bk), k < i → bs[k]? = some q → peqB q.p pt = false := by
    intro k q hki hq
    cases he : peqB q.p pt
    · rfl
    · have e1 := peq_iff.1 he
      rw [List.pairwise_iff_getElem] at hap
      obtain ⟨hk2, e2⟩ := List.getElem?_eq_some_iff.1 hq
      obtain ⟨hi2, e3⟩ := List.getElem?_eq_some_iff.1 hi
      exact absurd (by rw [e2, e3, e1, hqp]) (hap k i hk2 hi2 hki)
  have hi0 : i < nb := by rw [HN.out.2]; exact hin
  have wi : IntKind.i64.wrap ((i : Int) + 1) = (i : Int) + 1 := by rw [IntKind.wrap_i64]; omega
  have b1 : (i : Int) ≤ (nb : Int) := by omega
  have b3 : (0 : Int) ≤ (i : Int) + 1 := by omega
  have b4 : (i : Int) + 1 ≤ (nb : Int) := by omega
  have hl1 : (bs.take i).length = i := by rw [List.length_take]; omega
  have hl2 : (bs.drop (i + 1)).length = nb - (i + 1) := by rw [List.length_drop, HN.out.2]
  have HL := hidP (And.intro hl1 hl2)
  have HX := hidP (And.intro hne (And.intro hi (And.intro hqp hqt)))
  clear hl1 hl2 hap hin hne hi hqp hqt
  subst hcj
  have b2 : (i : Int) ≤ (i : Int) + 1 := by omega
  go_enter Tryz.func14, Tryz.ntmps14
  go_wp2_with fail
  have uF := frz2 w 34 (.slice (some ⟨g, 0, none⟩) np np) (.slice (some ⟨h, 0, none⟩) (i + 1) (i + 1))
  obtain ⟨u0, u1⟩ := box2 (u := .slice (some ⟨g, 0, none⟩) np np) (v := .slice (some ⟨h, 0, none⟩) (i + 1) (i + 1)) w 34
  have uB := alloc_below w (.cells #[.slice (some ⟨g, 0, none⟩) np np, .slice (some ⟨h, 0, none⟩) (i + 1) (i + 1)] 34)
  have uL := alloc_lt w (.cells #[.slice (some ⟨g, 0, none⟩) np np, .slice (some ⟨h, 0, none⟩) (i + 1) (i + 1)] 34)
  have uS : (w.alloc (.cells #[.slice (some ⟨g, 0, none⟩) np np, .slice (some ⟨h, 0, none⟩) (i + 1) (i + 1)] 34)).heap.size = w.heap.size + 1 := by simp
  generalize w.alloc (.cells #[.slice (some ⟨g, 0, none⟩) np np, .slice (some ⟨h, 0, none⟩) (i + 1) (i + 1)] 34) = W1 at *
  obtain ⟨y0, y1, y2, y3⟩ := box4 (p := pt) W1 37
  have yB := alloc_below W1 (.cells #[.bool pt.s, .int .i64 pt.H.toInt, .int .i64 pt.L.toInt, .int .i64 pt.b] 37)
  have yL := alloc_lt W1 (.cells #[.bool pt.s, .int .i64 pt.H.toInt, .int .i64 pt.L.toInt, .int .i64 pt.b] 37)
  have yS : (W1.alloc (.cells #[.bool pt.s, .int .i64 pt.H.toInt, .int .i64 pt.L.toInt, .int .i64 pt.b] 37)).heap.size = W1.heap.size + 1 := by simp
  generalize W1.alloc (.cells #[.bool pt.s, .int .i64 pt.H.toInt, .int .i64 pt.L.toInt, .int .i64 pt.b] 37) = W2 at *
  rw [uS] at y0 y1 y2 y3 yL yS
  have kF := frz2 W2 34 (.slice none 0 0) (.slice none 0 0)
  obtain ⟨k0, k1⟩ := box2 (u := .slice none 0 0) (v := .slice none 0 0) W2 34
  have kB := alloc_below W2 (.cells #[.slice none 0 0, .slice none 0 0] 34)
  have kL := alloc_lt W2 (.cells #[.slice none 0 0, .slice none 0 0] 34)
  have kS : (W2.alloc (.cells #[.slice none 0 0, .slice none 0 0] 34)).heap.size = W2.heap.size + 1 := by simp
  generalize W2.alloc (.cells #[.slice none 0 0, .slice none 0 0] 34) = W3 at *
  rw [yS] at k0 k1 kL kS
  rw [yS] at kF
  have l0 : w.heap.size < W2.heap.size := by omega
  have l1 : w.heap.size + 1 < W2.heap.size := by omega
  have U0 := (kB.cell l0).trans ((yB.cell uL).trans u0)
  have U1 := (kB.cell l0).trans ((yB.cell uL).trans u1)
  have UF : ∀ o, W3.frozen? ⟨w.heap.size, o, none⟩ = false := fun o => (kB.frozen l0).trans ((yB.frozen uL).trans (uF o))
  have Y0 := (kB.cell l1).trans y0
  have Y1 := (kB.cell l1).trans y1
  have Y2 := (kB.cell l1).trans y2
  have Y3 := (kB.cell l1).trans y3
  have acc0 := hidP ((uB.trans (yB.mono uB.size)).trans (kB.mono (Nat.le_trans uB.size yB.size)))
  have UL : w.heap.size < W3.heap.size := by omega
  have YL : w.heap.size + 1 < W3.heap.size := by omega
  have kL3 : w.heap.size + 1 + 1 < W3.heap.size := by omega
  have UL9 := UL
  have kL9 := kL3
  clear uB yB kB uS yS kS u0 u1 y0 y1 y2 y3 uL yL kL uF l0 l1
  have U1c := U1
  have ac3_W3 := hidP (Below.refl W3.heap.size W3)
  refine (HOw.out _ acc0.out).mono ?_
  rintro e w4 ⟨a, c, b, d, rfl, op, ob, hne, hb4⟩
  have pb0_w4 := (hb4.cell UL).trans U0
  have pb1_w4 := (hb4.cell UL).trans U1
  have pbF_w4 : ∀ o, w4.frozen? ⟨w.heap.size, o, none⟩ = false := fun o => (hb4.frozen UL).trans (UF o)
  have pbL_w4 : w.heap.size < w4.heap.size := Nat.lt_of_lt_of_le UL hb4.size
  have at0_w4 := (hb4.cell YL).trans Y0
  have at1_w4 := (hb4.cell YL).trans Y1
  have at2_w4 := (hb4.cell YL).trans Y2
  have at3_w4 := (hb4.cell YL).trans Y3
  have atL_w4 : w.heap.size + 1 < w4.heap.size := Nat.lt_of_lt_of_le YL hb4.size
  have rs0_w4 := (hb4.cell kL3).trans k0
  have rs1_w4 := (hb4.cell kL3).trans k1
  have rsF_w4 : ∀ o, w4.frozen? ⟨w.heap.size + 1 + 1, o, none⟩ = false := fun o => (hb4.frozen kL3).trans (kF o)
  have rsL_w4 : w.heap.size + 1 + 1 < w4.heap.size := Nat.lt_of_lt_of_le kL3 hb4.size
  have acc_w4 := hidP (acc0.out.trans (hb4.mono acc0.out.size))
  have ac3_w4 := hidP (ac3_W3.out.trans (hb4.mono ac3_W3.out.size))
  have w43c := hb4.size
  have HLB4 := hidP (fun j hj => (OwnG.lt op j hj).2)
  have oP_w4 := hidP op
  have oB_w4 := hidP ob
  have HNE := hidP hne
  clear UF U0 U1 UL Y0 Y1 Y2 Y3 YL kF k0 k1 kL3 acc0 ac3_W3 hb4 op ob hne
  go_wp2_with fail
  have oF := frz2 w4 34 (.slice a np c) (.slice b (i + 1) d)
  obtain ⟨o0, o1⟩ := box2 (u := .slice a np c) (v := .slice b (i + 1) d) w4 34
  have oB := alloc_below w4 (.cells #[.slice a np c, .slice b (i + 1) d] 34)
  have oL := alloc_lt w4 (.cells #[.slice a np c, .slice b (i + 1) d] 34)
  have oS : (w4.alloc (.cells #[.slice a np c, .slice b (i + 1) d] 34)).heap.size = w4.heap.size + 1 := by simp
  generalize w4.alloc (.cells #[.slice a np c, .slice b (i + 1) d] 34) = W5 at *
  have hb5 := oB
  have pb0_W5 := (hb5.cell pbL_w4).trans pb0_w4
  have pb1_W5 := (hb5.cell pbL_w4).trans pb1_w4
  have pbF_W5 : ∀ o, W5.frozen? ⟨w.heap.size, o, none⟩ = false := fun o => (hb5.frozen pbL_w4).trans (pbF_w4 o)
  have pbL_W5 : w.heap.size < W5.heap.size := Nat.lt_of_lt_of_le pbL_w4 hb5.size
  have at0_W5 := (hb5.cell atL_w4).trans at0_w4
  have at1_W5 := (hb5.cell atL_w4).trans at1_w4
  have at2_W5 := (hb5.cell atL_w4).trans at2_w4
  have at3_W5 := (hb5.cell atL_w4).trans at3_w4
  have atL_W5 : w.heap.size + 1 < W5.heap.size := Nat.lt_of_lt_of_le atL_w4 hb5.size
  have rs0_W5 := (hb5.cell rsL_w4).trans rs0_w4
  have rs1_W5 := (hb5.cell rsL_w4).trans rs1_w4
  have rsF_W5 : ∀ o, W5.frozen? ⟨w.heap.size + 1 + 1, o, none⟩ = false := fun o => (hb5.frozen rsL_w4).trans (rsF_w4 o)
  have rsL_W5 : w.heap.size + 1 + 1 < W5.heap.size := Nat.lt_of_lt_of_le rsL_w4 hb5.size
  have oP_W5 := hidP (OwnG.later oP_w4.out hb5)
  have oB_W5 := hidP (OwnG.later oB_w4.out hb5)
  have acc_W5 := hidP (acc_w4.out.trans (hb5.mono acc_w4.out.size))
  have ac3_W5 := hidP (ac3_w4.out.trans (hb5.mono ac3_w4.out.size))
  clear pbF_w4 pb0_w4 pb1_w4 pbL_w4 at0_w4 at1_w4 at2_w4 at3_w4 atL_w4 rsF_w4 rs0_w4 rs1_w4 rsL_w4 oP_w4 oB_w4 acc_w4 ac3_w4 hb5 oB oS
  refine (HPO.out _ acc_W5.out).mono ?_
  rintro e w6 ⟨rfl, hb6⟩
  have pb0_w6 := (hb6.cell pbL_W5).trans pb0_W5
  have pb1_w6 := (hb6.cell pbL_W5).trans pb1_W5
  have pbF_w6 : ∀ o, w6.frozen? ⟨w.heap.size, o, none⟩ = false := fun o => (hb6.frozen pbL_W5).trans (pbF_W5 o)
  have pbL_w6 : w.heap.size < w6.heap.size := Nat.lt_of_lt_of_le pbL_W5 hb6.size
  have at0_w6 := (hb6.cell atL_W5).trans at0_W5
  have at1_w6 := (hb6.cell atL_W5).trans at1_W5
  have at2_w6 := (hb6.cell atL_W5).trans at2_W5
  have at3_w6 := (hb6.cell atL_W5).trans at3_W5
  have atL_w6 : w.heap.size + 1 < w6.heap.size := Nat.lt_of_lt_of_le atL_W5 hb6.size
  have rs0_w6 := (hb6.cell rsL_W5).trans rs0_W5
  have rs1_w6 := (hb6.cell rsL_W5).trans rs1_W5
  have rsF_w6 : ∀ o, w6.frozen? ⟨w.heap.size + 1 + 1, o, none⟩ = false := fun o => (hb6.frozen rsL_W5).trans (rsF_W5 o)
  have rsL_w6 : w.heap.size + 1 + 1 < w6.heap.size := Nat.lt_of_lt_of_le rsL_W5 hb6.size
  have ot0_w6 := (hb6.cell oL).trans o0
  have ot1_w6 := (hb6.cell oL).trans o1
  have otF_w6 : ∀ o, w6.frozen? ⟨w4.heap.size, o, none⟩ = false := fun o => (hb6.frozen oL).trans (oF o)
  have otL_w6 : w4.heap.size < w6.heap.size := Nat.lt_of_lt_of_le oL hb6.size
  have oP_w6 := hidP (OwnG.later oP_W5.out hb6)
  have oB_w6 := hidP (OwnG.later oB_W5.out hb6)
  have acc_w6 := hidP (acc_W5.out.trans (hb6.mono acc_W5.out.size))
  have ac3_w6 := hidP (ac3_W5.out.trans (hb6.mono ac3_W5.out.size))
  clear pbF_W5 pb0_W5 pb1_W5 pbL_W5 at0_W5 at1_W5 at2_W5 at3_W5 atL_W5 rsF_W5 rs0_W5 rs1_W5 rsL_W5 oF o0 o1 oL oP_W5 oB_W5 acc_W5 ac3_W5 hb6
  go_wp2_with fail
  refine (HPk.out _).mono ?_
  rintro e w7 ⟨rfl, hb7⟩
  have pb0_w7 := (hb7.cell pbL_w6).trans pb0_w6
  have pb1_w7 := (hb7.cell pbL_w6).trans pb1_w6
  have pbF_w7 : ∀ o, w7.frozen? ⟨w.heap.size, o, none⟩ = false := fun o => (hb7.frozen pbL_w6).trans (pbF_w6 o)
  have pbL_w7 : w.heap.size < w7.heap.size := Nat.lt_of_lt_of_le pbL_w6 hb7.size
  have at0_w7 := (hb7.cell atL_w6).trans at0_w6
  have at1_w7 := (hb7.cell atL_w6).trans at1_w6
  have at2_w7 := (hb7.cell atL_w6).trans at2_w6
  have at3_w7 := (hb7.cell atL_w6).trans at3_w6
  have atL_w7 : w.heap.size + 1 < w7.heap.size := Nat.lt_of_lt_of_le atL_w6 hb7.size
  have rs0_w7 := (hb7.cell rsL_w6).trans rs0_w6
  have rs1_w7 := (hb7.cell rsL_w6).trans rs1_w6
  have rsF_w7 : ∀ o, w7.frozen? ⟨w.heap.size + 1 + 1, o, none⟩ = false := fun o => (hb7.frozen rsL_w6).trans (rsF_w6 o)
  have rsL_w7 : w.heap.size + 1 + 1 < w7.heap.size := Nat.lt_of_lt_of_le rsL_w6 hb7.size
  have ot0_w7 := (hb7.cell otL_w6).trans ot0_w6
  have ot1_w7 := (hb7.cell otL_w6).trans ot1_w6
  have otF_w7 : ∀ o, w7.frozen? ⟨w4.heap.size, o, none⟩ = false := fun o => (hb7.frozen otL_w6).trans (otF_w6 o)
  have otL_w7 : w4.heap.size < w7.heap.size := Nat.lt_of_lt_of_le otL_w6 hb7.size
  have oP_w7 := hidP (OwnG.later oP_w6.out hb7)
  have oB_w7 := hidP (OwnG.later oB_w6.out hb7)
  have acc_w7 := hidP (acc_w6.out.trans (hb7.mono acc_w6.out.size))
  have ac3_w7 := hidP (ac3_w6.out.trans (hb7.mono ac3_w6.out.size))
  clear pbF_w6 pb0_w6 pb1_w6 pbL_w6 at0_w6 at1_w6 at2_w6 at3_w6 atL_w6 rsF_w6 rs0_w6 rs1_w6 rsL_w6 otF_w6 ot0_w6 ot1_w6 otL_w6 oP_w6 oB_w6 acc_w6 ac3_w6 hb7
  go_wp2_with fail
  refine (HOO.out _).mono ?_
  rintro e w8 ⟨rfl, h8⟩
  subst h8
  go_wp2_with fail
  go_loopw [9] (fun t9 wr => ∃ k : Nat, k ≤ i ∧ t9 = .int .i64 k ∧ Below w8.heap.size w8 wr) (fun t9 _ => (i + 1) - (intOf t9).toNat)
  case atStart => exact ⟨0, Nat.zero_le _, rfl, Below.refl _ _⟩
  case round =>
    obtain ⟨k, hki, rfl, hbr⟩ := hrel
    have HBr := hidP hbr
    have pb0_wr := (hbr.cell pbL_w7).trans pb0_w7
    have pb1_wr := (hbr.cell pbL_w7).trans pb1_w7
    have pbF_wr : ∀ o, wr.frozen? ⟨w.heap.size, o, none⟩ = false := fun o => (hbr.frozen pbL_w7).trans (pbF_w7 o)
    have pbL_wr : w.heap.size < wr.heap.size := Nat.lt_of_lt_of_le pbL_w7 hbr.size
    have at0_wr := (hbr.cell atL_w7).trans at0_w7
    have at1_wr := (hbr.cell atL_w7).trans at1_w7
    have at2_wr := (hbr.cell atL_w7).trans at2_w7
    have at3_wr := (hbr.cell atL_w7).trans at3_w7
    have atL_wr : w.heap.size + 1 < wr.heap.size := Nat.lt_of_lt_of_le atL_w7 hbr.size
    have rs0_wr := (hbr.cell rsL_w7).trans rs0_w7
    have rs1_wr := (hbr.cell rsL_w7).trans rs1_w7
    have rsF_wr : ∀ o, wr.frozen? ⟨w.heap.size + 1 + 1, o, none⟩ = false := fun o => (hbr.frozen rsL_w7).trans (rsF_w7 o)
    have rsL_wr : w.heap.size + 1 + 1 < wr.heap.size := Nat.lt_of_lt_of_le rsL_w7 hbr.size
    have ot0_wr := (hbr.cell otL_w7).trans ot0_w7
    have ot1_wr := (hbr.cell otL_w7).trans ot1_w7
    have otF_wr : ∀ o, wr.frozen? ⟨w4.heap.size, o, none⟩ = false := fun o => (hbr.frozen otL_w7).trans (otF_w7 o)
    have otL_wr : w4.heap.size < wr.heap.size := Nat.lt_of_lt_of_le otL_w7 hbr.size
    have oP_wr := hidP (OwnG.later oP_w7.out hbr)
    have oB_wr := hidP (OwnG.later oB_w7.out hbr)
    have acc_wr := hidP (acc_w7.out.trans (hbr.mono acc_w7.out.size))
    have ac3_wr := hidP (ac3_w7.out.trans (hbr.mono ac3_w7.out.size))
    clear pbF_w7 pb0_w7 pb1_w7 pbL_w7 at0_w7 at1_w7 at2_w7 at3_w7 atL_w7 rsF_w7 rs0_w7 rs1_w7 rsL_w7 otF_w7 ot0_w7 ot1_w7 otL_w7 oP_w7 oB_w7 acc_w7 ac3_w7 hbr
    have hkb : k < bs.length := by have := HN.out.2; omega
    obtain ⟨p', o', q, ha, hpL, hq, c0, c1, c2, c3, c4⟩ := rowBk (HRB.out.later acc_wr.out) k hkb
    simp only [Option.some.injEq, Addr.mk.injEq, and_true] at ha
    obtain ⟨rfl, rfl⟩ := ha
    rw [Nat.zero_add] at c0 c1 c2 c3 c4
    have eqp := eqPfx q.p pt
    have gk : decide ((k : Int) < ((i + 1) : Int)) = true := decide_eq_true (by omega)
    have gk2 : (k : Int) < ((i + 1) : Int) := by omega
    have gk3 : (0 : Int) ≤ (k : Int) := by omega
    by_cases hlt : k < i
    · rw [HX.out.1 k q hlt hq] at eqp
      go_wp2_with fail
      go_quiet (fail)
      go_wp2_with fail
      go_roundw
      case rel => exact ⟨k + 1, by omega, by go_num, below_drewN HBr.out _⟩
      case measure => simp [intOf]; omega
    · have hki' : i = k := by omega
      subst hki'
      have hqr : r = q := Option.some.inj (HX.out.2.1.symm.trans hq)
      subst hqr
      rw [peq_iff.2 HX.out.2.2.1] at eqp
      have hqt := HX.out.2.2.2
      go_wp2_with fail
      go_quiet (fail)
      go_wp2_with fail
      have hbd := below_drewN (Below.refl wr.heap.size wr) nq
      clear c0 c1 c2 c3 c4 hpL
      generalize wr.drewN nq = wd at *
      have pb0_wd := (hbd.cell pbL_wr).trans pb0_wr
      have pb1_wd := (hbd.cell pbL_wr).trans pb1_wr
      have pbF_wd : ∀ o, wd.frozen? ⟨w.heap.size, o, none⟩ = false := fun o => (hbd.frozen pbL_wr).trans (pbF_wr o)
      have pbL_wd : w.heap.size < wd.heap.size := Nat.lt_of_lt_of_le pbL_wr hbd.size
      have at0_wd := (hbd.cell atL_wr).trans at0_wr
      have at1_wd := (hbd.cell atL_wr).trans at1_wr
      have at2_wd := (hbd.cell atL_wr).trans at2_wr
      have at3_wd := (hbd.cell atL_wr).trans at3_wr
      have atL_wd : w.heap.size + 1 < wd.heap.size := Nat.lt_of_lt_of_le atL_wr hbd.size
      have rs0_wd := (hbd.cell rsL_wr).trans rs0_wr
      have rs1_wd := (hbd.cell rsL_wr).trans rs1_wr
      have rsF_wd : ∀ o, wd.frozen? ⟨w.heap.size + 1 + 1, o, none⟩ = false := fun o => (hbd.frozen rsL_wr).trans (rsF_wr o)
      have rsL_wd : w.heap.size + 1 + 1 < wd.heap.size := Nat.lt_of_lt_of_le rsL_wr hbd.size
      have ot0_wd := (hbd.cell otL_wr).trans ot0_wr
      have ot1_wd := (hbd.cell otL_wr).trans ot1_wr
      have otF_wd : ∀ o, wd.frozen? ⟨w4.heap.size, o, none⟩ = false := fun o => (hbd.frozen otL_wr).trans (otF_wr o)
      have otL_wd : w4.heap.size < wd.heap.size := Nat.lt_of_lt_of_le otL_wr hbd.size
      have oP_wd := hidP (OwnG.later oP_wr.out hbd)
      have oB_wd := hidP (OwnG.later oB_wr.out hbd)
      have acc_wd := hidP (acc_wr.out.trans (hbd.mono acc_wr.out.size))
      have ac3_wd := hidP (ac3_wr.out.trans (hbd.mono ac3_wr.out.size))
      clear pbF_wr pb0_wr pb1_wr pbL_wr at0_wr at1_wr at2_wr at3_wr atL_wr rsF_wr rs0_wr rs1_wr rsL_wr otF_wr ot0_wr ot1_wr otL_wr oP_wr oB_wr acc_wr ac3_wr hbd
      have HSx : Hid (∀ x, Below W3.heap.size W3 x → (x.cell? ⟨w.heap.size, 1, none⟩ = some (.slice (some ⟨h, 0, none⟩) (i + 1) (i + 1)) ∧ Below W3.heap.size W3 x)) := hidP fun x h =>
        ⟨(h.cell UL9).trans U1c, h⟩
      refine wp_region_held_drew (S := (fun x => x.cell? ⟨w.heap.size, 1, none⟩ = some (.slice (some ⟨h, 0, none⟩) (i + 1) (i + 1)) ∧ Below W3.heap.size W3 x)) (by kernel_rfl) ?_ (fun hHeld => ?_)
      · try dsimp only
        exact HSx.out _ (ac3_wd.out.drew)
      refine wpAnyH_take (i := 1) (oi := ⟨some 52, _, _, _, _, _⟩) (v := ?_) rfl (by kernel_rfl) (by kernel_rfl) (by kernel_rfl) (fun _ _ _ h => h) (Or.inl ⟨by rfl, ?_⟩) (by assumption) ?_
      rotate_left
      · intro w hSw
        try dsimp only at hSw
        go_simp
        try with_reducible rfl
      simp only [Act.put, List.setIfInBounds_toArray, List.set_cons_zero, List.set_cons_succ]
      refine wpAnyH_take (i := 2) (oi := ⟨some 53, _, _, _, _, _⟩) (v := ?_) rfl (by kernel_rfl) (by kernel_rfl) (by kernel_rfl) (fun _ _ _ h => h) (Or.inl ⟨by rfl, ?_⟩) (by assumption) ?_
      rotate_left
      · intro w hSw
        try dsimp only at hSw
        go_simp
        try with_reducible rfl
      simp only [Act.put, List.setIfInBounds_toArray, List.set_cons_zero, List.set_cons_succ]
      refine wpAnyH_take (i := 3) (oi := ⟨some 54, _, _, _, _, _⟩) (v := ?_) rfl (by kernel_rfl) (by kernel_rfl) (by kernel_rfl) (fun _ _ _ h => h) (Or.inl ⟨by rfl, ?_⟩) (by assumption) ?_
      rotate_left
      · intro w hSw
        try dsimp only at hSw
        go_simp
        try with_reducible rfl
      simp only [Act.put, List.setIfInBounds_toArray, List.set_cons_zero, List.set_cons_succ]
      refine wpAnyH_take (i := 4) (oi := ⟨some 55, _, _, _, _, _⟩) (v := ?_) rfl (by kernel_rfl) (by kernel_rfl) (by kernel_rfl) (fun _ _ _ h => h) (Or.inl ⟨by rfl, ?_⟩) (by assumption) ?_
      rotate_left
      · intro w hSw
        try dsimp only at hSw
        go_simp
        try with_reducible rfl
      simp only [Act.put, List.setIfInBounds_toArray, List.set_cons_zero, List.set_cons_succ]
      refine wpAnyH_take (i := 6) (oi := ⟨some 57, _, _, _, _, _⟩) (v := ?_) rfl (by kernel_rfl) (by kernel_rfl) (by kernel_rfl) (fun _ _ _ h => h) (Or.inl ⟨by rfl, ?_⟩) (by assumption) ?_
      rotate_left
      · intro w hSw
        try dsimp only at hSw
        go_simp
        try with_reducible rfl
      simp only [Act.put, List.setIfInBounds_toArray, List.set_cons_zero, List.set_cons_succ]
      refine wpAnyH_take (i := 7) (oi := ⟨some 58, _, _, _, _, _⟩) (v := ?_) rfl (by kernel_rfl) (by kernel_rfl) (by kernel_rfl) (fun _ _ _ h => h) (Or.inl ⟨by rfl, ?_⟩) (by assumption) ?_
      rotate_left
      · intro w hSw
        try dsimp only at hSw
        go_simp
        try with_reducible rfl
      simp only [Act.put, List.setIfInBounds_toArray, List.set_cons_zero, List.set_cons_succ]
      refine wpAnyH_take (i := 8) (oi := ⟨some 59, _, _, _, _, _⟩) (v := ?_) rfl (by kernel_rfl) (by kernel_rfl) (by kernel_rfl) (fun _ _ _ h => h) (Or.inl ⟨by rfl, ?_⟩) (by assumption) ?_
      rotate_left
      · intro w hSw
        try dsimp only at hSw
        go_simp
        try with_reducible rfl
      simp only [Act.put, List.setIfInBounds_toArray, List.set_cons_zero, List.set_cons_succ]
      refine wpAnyH_take (i := 9) (oi := ⟨some 60, _, _, _, _, _⟩) (v := ?_) rfl (by kernel_rfl) (by kernel_rfl) (by kernel_rfl) (fun _ _ _ h => h) (Or.inl ⟨by rfl, ?_⟩) (by assumption) ?_
      rotate_left
      · intro w hSw
        try dsimp only at hSw
        go_simp
        try with_reducible rfl
      simp only [Act.put, List.setIfInBounds_toArray, List.set_cons_zero, List.set_cons_succ]
      refine wpAnyH_take (i := 10) (oi := ⟨some 61, _, _, _, _, _⟩) (v := ?_) rfl (by kernel_rfl) (by kernel_rfl) (by kernel_rfl) (fun _ _ _ h => h) (Or.inl ⟨by rfl, ?_⟩) (by assumption) ?_
      rotate_left
      · intro w hSw
        try dsimp only at hSw
        go_simp
        try with_reducible rfl
      simp only [Act.put, List.setIfInBounds_toArray, List.set_cons_zero, List.set_cons_succ]
      refine wpAnyH_ready (rs := [0]) (by kernel_rfl) (by simp) ?_
      refine AllReadyH.cons rfl (fun K hK => ?_) AllReadyH.nil
      go_simp
      have z1 := OwnG.drewG (own_zeroG KBk wd wd.heap.size 62 (Nat.le_refl _))
      have zb1 := (alloc_below wd (.cells #[] 62)).drew
      have zs1 : wd.heap.size + 1 ≤ (wd.alloc (.cells #[] 62)).drew.heap.size := by show wd.heap.size + 1 ≤ (wd.alloc (.cells #[] 62)).heap.size; simp
      have bel1 := ac3_wd.out.trans (zb1.mono ac3_wd.out.size)
      generalize (wd.alloc (.cells #[] 62)).drew = v1 at *
      refine hK.out _ _ ?_ (fun hHeld => ?_)
      · try dsimp only
        exact HSx.out _ bel1
      clear hK K
      refine wpAnyH_ready (rs := [5]) (by kernel_rfl) (by simp) ?_
      refine AllReadyH.cons rfl (fun K hK => ?_) AllReadyH.nil
      have rw1 : Below w.heap.size w v1 := acc_wd.out.trans (zb1.mono acc_wd.out.size)
      refine step_appG Tryz.tyBk _ rfl (.tmp 51) (.tmp 55) 32 rfl wd.heap.size (some ⟨wd.heap.size, 0, none⟩) 0 0 i [] (bs.take i) (.slice (some ⟨h, 0, none⟩) i (i + 1)) rfl rfl HL.out.1.symm z1 rfl (src_rowG Tryz.tyBk.1 i (i + 1) (by show 0 < 5; omega) HL.out.1.symm (RowG.takeG (HRB.out.later rw1) i) (fun e => by cases e)) (by omega) (by omega) ?_
      intro a2 c2 v2 ho2 hg2 ht2
      rw [Nat.zero_add, List.nil_append] at ho2
      have zs2 := hg2.size
      have bel2 := Below.grown bel1 hg2 bel1.size (fun j hj => by rw [ob_some, Option.some.injEq] at hj; have := ac3_wd.out.size; omega)
      have zb2 := Below.grown zb1 hg2 zb1.size (fun j hj => by rw [ob_some, Option.some.injEq] at hj; omega)
      rw [Nat.zero_add]
      refine hK.out _ _ ?_ (fun hHeld => ?_)
      · try dsimp only
        exact HSx.out _ bel2
      clear hK K
      refine wpAnyH_ready (rs := [11]) (by kernel_rfl) (by simp) ?_
      refine AllReadyH.cons rfl (fun K hK => ?_) AllReadyH.nil
      have rw2 : Below w.heap.size w v2 := acc_wd.out.trans (zb2.mono acc_wd.out.size)
      refine step_appG Tryz.tyBk _ rfl (.tmp 56) (.tmp 61) 32 rfl wd.heap.size a2 i c2 ((i + 1) - (i + 1)) (bs.take i) (bs.drop (i + 1)) (.slice (some ⟨h, 0, none⟩) ((i + 1) - (i + 1)) 0) rfl HL.out.1.symm HL.out.2.symm ho2 (by rw [Nat.sub_self]; rfl) (src_rowG Tryz.tyBk.1 _ _ (by show 0 < 5; omega) HL.out.2.symm (fun j hj => by rw [HL.out.2] at hj; omega) (fun e => by cases e)) (by omega) (by omega) ?_
      intro a3 c3 v3 ho3 hg3 ht3
      have lo2 := fun j hj => (OwnG.lt ho2 j hj).1
      have bel3 := Below.grown bel2 hg3 bel2.size (fun j hj => by have := lo2 j hj; have := ac3_wd.out.size; omega)
      have zb3 := Below.grown zb2 hg3 zb2.size (fun j hj => by have := lo2 j hj; omega)
      have heM : i + ((i + 1) - (i + 1)) = i := by omega
      rw [heM, erase_eqB] at ho3
      rw [heM]
      refine hK.out _ _ ?_ (fun hHeld => ?_)
      · try dsimp only
        exact HSx.out _ bel3
      clear hK K
      refine wpAnyH_take (i := 12) (oi := ⟨some 63, _, _, _, _, _⟩) (v := ?_) rfl (by kernel_rfl) (by kernel_rfl) (by kernel_rfl) (fun _ _ _ h => h) (Or.inl ⟨by rfl, ?_⟩) (by assumption) ?_
      rotate_left
      · intro w hSw
        try dsimp only at hSw
        go_simp
        try with_reducible rfl
      simp only [Act.put, List.setIfInBounds_toArray]
      have t0 := (zb3.cell otL_wd).trans ot0_wd
      have t1 := (zb3.cell otL_wd).trans ot1_wd
      have tF : ∀ o, v3.frozen? ⟨w4.heap.size, o, none⟩ = false := fun o => (zb3.frozen otL_wd).trans (otF_wd o)
      have s0 := (zb3.cell rsL_wd).trans rs0_wd
      have s1 := (zb3.cell rsL_wd).trans rs1_wd
      have sF : ∀ o, v3.frozen? ⟨w.heap.size + 1 + 1, o, none⟩ = false := fun o => (zb3.frozen rsL_wd).trans (rsF_wd o)
      have w43 : W3.heap.size ≤ w4.heap.size := w43c
      refine wpAnyH_ready (rs := [13]) (by kernel_rfl) (by simp) ?_
      refine AllReadyH.cons rfl (fun K hK => ?_) AllReadyH.nil
      go_simp
      refine hK.out _ _ ?_ (fun hHeld => ?_)
      · try dsimp only
        exact HSx.out _ (bel3.setCell w43 _)
      clear hK K
      have HE := hidP (hHeld.2)
      refine wpAnyH_done (by kernel_rfl) ?_ _
      clear hHeld
      have r0 : (v3.setCell ⟨w4.heap.size, 1, none⟩ (.slice a3 i c3)).cell? ⟨w.heap.size + 1 + 1, 0, none⟩ = some (.slice none 0 0) := cell_set1b s0 (by omega)
      have r1 : (v3.setCell ⟨w4.heap.size, 1, none⟩ (.slice a3 i c3)).cell? ⟨w.heap.size + 1 + 1, 1, none⟩ = some (.slice none 0 0) := cell_set1b s1 (by omega)
      have rF : ∀ o, (v3.setCell ⟨w4.heap.size, 1, none⟩ (.slice a3 i c3)).frozen? ⟨w.heap.size + 1 + 1, o, none⟩ = false := fun o => frz_set1b (sF o) (by omega)
      have n0 : (v3.setCell ⟨w4.heap.size, 1, none⟩ (.slice a3 i c3)).cell? ⟨w4.heap.size, 0, none⟩ = some (.slice a np c) := by simp [go_sem, t0]
      have n1 : (v3.setCell ⟨w4.heap.size, 1, none⟩ (.slice a3 i c3)).cell? ⟨w4.heap.size, 1, none⟩ = some (.slice a3 i c3) := by simp [go_sem, t1]
      have lB := fun j hj => (OwnG.lt oP_wd.out j hj).2
      have oB9 := hidP (OwnG.set1b (u := .slice a3 i c3) ho3 otL_wd)
      have oP9 := hidP (OwnG.grown (OwnG.later oP_wd.out zb3) (grown_cellG v3 w4.heap.size 1 (.slice a3 i c3)) (fun j hj e => by have := HLB4.out j hj; simp at e; omega))
      have ac9 := hidP (Below.setCell (p := ⟨w4.heap.size, 1, none⟩) (acc_wd.out.trans (zb3.mono acc_wd.out.size)) (show w.heap.size ≤ w4.heap.size by omega) (.slice a3 i c3))
      have lP := fun j hj => (OwnG.lt ho3 j hj).1
      have HD := hidP (And.intro lB lP)
      clear lB lP ho3 hg3 ht3 ho2 hg2 ht2 z1 t0 t1 tF s0 s1 sF
      generalize (v3.setCell ⟨w4.heap.size, 1, none⟩ (.slice a3 i c3)) = V at *
      go_wp2_with fail
      refine bodyPost_ret (v := .tuple #[.agg #[.slice a np c, .slice a3 i c3], .int .i64 0]) (by simp [results, Tryz.results14, go_sem, r0, r1]) rfl ⟨_, _, _, _, rfl, (OwnG.set2 oP9.out kL9).mono (Nat.le_of_lt UL9), (OwnG.set2 oB9.out (by omega)).mono (by omega), (fun k h1 h2 => by have e1 := HD.out.1 k h1; have e2 := HD.out.2 k h2; omega), below_set2 ac9.out (by omega)⟩

end Go.Proofs.YtmbmekcppmbokaaGreat

/-
  The specification's Free where the block goes.
-/
namespace Go.Proofs.YtmbmekcppmbokaaGreat
open Go.RowKit

set_option maxRecDepth 10000 in
set_option maxHeartbeats 4000000 in
theorem sFree_e1 (pt : Pf) (ow : ByteArray) (how : ow.size ≤ 9223372036854775807) (g h : Nat) (np nb : Nat) (ps : List Pl) (bs : List Bk) (w : World) (hnp : np = ps.length) (hnb : nb = bs.length) (hP : RowG KPl w (some ⟨g, 0, none⟩) ps) (hK : RowG KBk w (some ⟨h, 0, none⟩) bs) (hl : np ≤ 1048576) (hl' : nb ≤ 1048576) (hst : ∀ q ∈ bs, q.t.size ≤ 9223372036854775807) (hr : planB ps bs = true) (hk : pt.pk = true) (ho : ownB ow = true) (i : Nat) (r : Bk) (hi : bs[i]? = some r) (hqp : r.p = pt) (hqt : (r.t.toList == ow.toList) = true) (hcj : ¬ nb = i + 1) :
    Calls Tryz.prog 14 #[.agg #[.slice (some ⟨g, 0, none⟩) np np, .slice (some ⟨h, 0, none⟩) nb nb], .agg #[.bool pt.s, .int .i64 pt.H.toInt, .int .i64 pt.L.toInt, .int .i64 pt.b], .string ow] w fun e w' => ∃ a c b d, e = .returned (.tuple #[.agg #[.slice a np c, .slice b (nb - 1) d], .int .i64 (0)]) ∧ OwnG KPl 60 w' w.heap.size (.slice a np c) (ps) ∧ OwnG KBk 62 w' w.heap.size (.slice b (nb - 1) d) (bs.eraseIdx i) ∧ (∀ k, (Value.slice a np c).ownBlock = some k → (Value.slice b (nb - 1) d).ownBlock ≠ some k) ∧ Below w.heap.size w w' := by
  have HOw := hidP (fun W h' => l5Copy_any (some ⟨g, 0, none⟩) np np (some ⟨h, 0, none⟩) nb nb ps bs W hnp hnb (hP.later h') (hK.later h') (fun e => by cases e) (fun e => by cases e) hl hl')
  have HPO := hidP (fun W h' => sPlanOk_any (some ⟨g, 0, none⟩) np np (some ⟨h, 0, none⟩) nb nb ps bs W hnp hnb (hP.later h') (hK.later h') (by omega) (by omega) hst)
  have HPk := hidP (sPrefixOk_any pt.s pt.H pt.L pt.b)
  change Hid (∀ w, Calls Tryz.prog 20 _ w fun e w' => e = .returned (.bool pt.pk) ∧ Below w.heap.size w w') at HPk
  have HOO := hidP (fun W => sOwnerOk_any ow W how)
  have h60 : nb ≤ 60 := by have := (plan_bs hr).1.2; omega
  have HN := hidP (And.intro hnp hnb)
  have HRB := hidP hK
  clear hP hK hnp hnb hst how
  rw [hr] at HPO
  rw [hk] at HPk
  rw [ho] at HOO
  have hap := apart_of (plan_bs hr).2.2
  have hin : i < bs.length := (List.getElem?_eq_some_iff.1 hi).1
  have hne : ∀ (k : Nat) (q : Bk), k < i → bs[k]? = some q → peqB q.p pt = false := by
    intro k q hki hq
    cases he : peqB q.p pt
    · rfl
    · have e1 := peq_iff.1 he
      rw [List.pairwise_iff_getElem] at hap
      obtain ⟨hk2, e2⟩ := List.getElem?_eq_some_iff.1 hq
      obtain ⟨hi2, e3⟩ := List.getElem?_eq_some_iff.1 hi
      exact absurd (by rw [e2, e3, e1, hqp]) (hap k i hk2 hi2 hki)
  have hi0 : i < nb := by rw [HN.out.2]; exact hin
  have wi : IntKind.i64.wrap ((i : Int) + 1) = (i : Int) + 1 := by rw [IntKind.wrap_i64]; omega
  have b1 : (i : Int) ≤ (nb : Int) := by omega
  have b3 : (0 : Int) ≤ (i : Int) + 1 := by omega
  have b4 : (i : Int) + 1 ≤ (nb : Int) := by omega
  have hl1 : (bs.take i).length = i := by rw [List.length_take]; omega
  have hl2 : (bs.drop (i + 1)).length = nb - (i + 1) := by rw [List.length_drop, HN.out.2]
  have HL := hidP (And.intro hl1 hl2)
  have HX := hidP (And.intro hne (And.intro hi (And.intro hqp hqt)))
  clear hl1 hl2 hap hin hne hi hqp hqt
  go_enter Tryz.func14, Tryz.ntmps14
  go_wp2_with fail
  have uF := frz2 w 34 (.slice (some ⟨g, 0, none⟩) np np) (.slice (some ⟨h, 0, none⟩) nb nb)
  obtain ⟨u0, u1⟩ := box2 (u := .slice (some ⟨g, 0, none⟩) np np) (v := .slice (some ⟨h, 0, none⟩) nb nb) w 34
  have uB := alloc_below w (.cells #[.slice (some ⟨g, 0, none⟩) np np, .slice (some ⟨h, 0, none⟩) nb nb] 34)
  have uL := alloc_lt w (.cells #[.slice (some ⟨g, 0, none⟩) np np, .slice (some ⟨h, 0, none⟩) nb nb] 34)
  have uS : (w.alloc (.cells #[.slice (some ⟨g, 0, none⟩) np np, .slice (some ⟨h, 0, none⟩) nb nb] 34)).heap.size = w.heap.size + 1 := by simp
  generalize w.alloc (.cells #[.slice (some ⟨g, 0, none⟩) np np, .slice (some ⟨h, 0, none⟩) nb nb] 34) = W1 at *
  obtain ⟨y0, y1, y2, y3⟩ := box4 (p := pt) W1 37
  have yB := alloc_below W1 (.cells #[.bool pt.s, .int .i64 pt.H.toInt, .int .i64 pt.L.toInt, .int .i64 pt.b] 37)
  have yL := alloc_lt W1 (.cells #[.bool pt.s, .int .i64 pt.H.toInt, .int .i64 pt.L.toInt, .int .i64 pt.b] 37)
  have yS : (W1.alloc (.cells #[.bool pt.s, .int .i64 pt.H.toInt, .int .i64 pt.L.toInt, .int .i64 pt.b] 37)).heap.size = W1.heap.size + 1 := by simp
  generalize W1.alloc (.cells #[.bool pt.s, .int .i64 pt.H.toInt, .int .i64 pt.L.toInt, .int .i64 pt.b] 37) = W2 at *
  rw [uS] at y0 y1 y2 y3 yL yS
  have kF := frz2 W2 34 (.slice none 0 0) (.slice none 0 0)
  obtain ⟨k0, k1⟩ := box2 (u := .slice none 0 0) (v := .slice none 0 0) W2 34
  have kB := alloc_below W2 (.cells #[.slice none 0 0, .slice none 0 0] 34)
  have kL := alloc_lt W2 (.cells #[.slice none 0 0, .slice none 0 0] 34)
  have kS : (W2.alloc (.cells #[.slice none 0 0, .slice none 0 0] 34)).heap.size = W2.heap.size + 1 := by simp
  generalize W2.alloc (.cells #[.slice none 0 0, .slice none 0 0] 34) = W3 at *
  rw [yS] at k0 k1 kL kS
  rw [yS] at kF
  have l0 : w.heap.size < W2.heap.size := by omega
  have l1 : w.heap.size + 1 < W2.heap.size := by omega
  have U0 := (kB.cell l0).trans ((yB.cell uL).trans u0)
  have U1 := (kB.cell l0).trans ((yB.cell uL).trans u1)
  have UF : ∀ o, W3.frozen? ⟨w.heap.size, o, none⟩ = false := fun o => (kB.frozen l0).trans ((yB.frozen uL).trans (uF o))
  have Y0 := (kB.cell l1).trans y0
  have Y1 := (kB.cell l1).trans y1
  have Y2 := (kB.cell l1).trans y2
  have Y3 := (kB.cell l1).trans y3
  have acc0 := hidP ((uB.trans (yB.mono uB.size)).trans (kB.mono (Nat.le_trans uB.size yB.size)))
  have UL : w.heap.size < W3.heap.size := by omega
  have YL : w.heap.size + 1 < W3.heap.size := by omega
  have kL3 : w.heap.size + 1 + 1 < W3.heap.size := by omega
  have UL9 := UL
  have kL9 := kL3
  clear uB yB kB uS yS kS u0 u1 y0 y1 y2 y3 uL yL kL uF l0 l1
  have U1c := U1
  have ac3_W3 := hidP (Below.refl W3.heap.size W3)
  refine (HOw.out _ acc0.out).mono ?_
  rintro e w4 ⟨a, c, b, d, rfl, op, ob, hne, hb4⟩
  have pb0_w4 := (hb4.cell UL).trans U0
  have pb1_w4 := (hb4.cell UL).trans U1
  have pbF_w4 : ∀ o, w4.frozen? ⟨w.heap.size, o, none⟩ = false := fun o => (hb4.frozen UL).trans (UF o)
  have pbL_w4 : w.heap.size < w4.heap.size := Nat.lt_of_lt_of_le UL hb4.size
  have at0_w4 := (hb4.cell YL).trans Y0
  have at1_w4 := (hb4.cell YL).trans Y1
  have at2_w4 := (hb4.cell YL).trans Y2
  have at3_w4 := (hb4.cell YL).trans Y3
  have atL_w4 : w.heap.size + 1 < w4.heap.size := Nat.lt_of_lt_of_le YL hb4.size
  have rs0_w4 := (hb4.cell kL3).trans k0
  have rs1_w4 := (hb4.cell kL3).trans k1
  have rsF_w4 : ∀ o, w4.frozen? ⟨w.heap.size + 1 + 1, o, none⟩ = false := fun o => (hb4.frozen kL3).trans (kF o)
  have rsL_w4 : w.heap.size + 1 + 1 < w4.heap.size := Nat.lt_of_lt_of_le kL3 hb4.size
  have acc_w4 := hidP (acc0.out.trans (hb4.mono acc0.out.size))
  have ac3_w4 := hidP (ac3_W3.out.trans (hb4.mono ac3_W3.out.size))
  have w43c := hb4.size
  have HLB4 := hidP (fun j hj => (OwnG.lt op j hj).2)
  have oP_w4 := hidP op
  have oB_w4 := hidP ob
  have HNE := hidP hne
  clear UF U0 U1 UL Y0 Y1 Y2 Y3 YL kF k0 k1 kL3 acc0 ac3_W3 hb4 op ob hne
  go_wp2_with fail
  have oF := frz2 w4 34 (.slice a np c) (.slice b nb d)
  obtain ⟨o0, o1⟩ := box2 (u := .slice a np c) (v := .slice b nb d) w4 34
  have oB := alloc_below w4 (.cells #[.slice a np c, .slice b nb d] 34)
  have oL := alloc_lt w4 (.cells #[.slice a np c, .slice b nb d] 34)
  have oS : (w4.alloc (.cells #[.slice a np c, .slice b nb d] 34)).heap.size = w4.heap.size + 1 := by simp
  generalize w4.alloc (.cells #[.slice a np c, .slice b nb d] 34) = W5 at *
  have hb5 := oB
  have pb0_W5 := (hb5.cell pbL_w4).trans pb0_w4
  have pb1_W5 := (hb5.cell pbL_w4).trans pb1_w4
  have pbF_W5 : ∀ o, W5.frozen? ⟨w.heap.size, o, none⟩ = false := fun o => (hb5.frozen pbL_w4).trans (pbF_w4 o)
  have pbL_W5 : w.heap.size < W5.heap.size := Nat.lt_of_lt_of_le pbL_w4 hb5.size
  have at0_W5 := (hb5.cell atL_w4).trans at0_w4
  have at1_W5 := (hb5.cell atL_w4).trans at1_w4
  have at2_W5 := (hb5.cell atL_w4).trans at2_w4
  have at3_W5 := (hb5.cell atL_w4).trans at3_w4
  have atL_W5 : w.heap.size + 1 < W5.heap.size := Nat.lt_of_lt_of_le atL_w4 hb5.size
  have rs0_W5 := (hb5.cell rsL_w4).trans rs0_w4
  have rs1_W5 := (hb5.cell rsL_w4).trans rs1_w4
  have rsF_W5 : ∀ o, W5.frozen? ⟨w.heap.size + 1 + 1, o, none⟩ = false := fun o => (hb5.frozen rsL_w4).trans (rsF_w4 o)
  have rsL_W5 : w.heap.size + 1 + 1 < W5.heap.size := Nat.lt_of_lt_of_le rsL_w4 hb5.size
  have oP_W5 := hidP (OwnG.later oP_w4.out hb5)
  have oB_W5 := hidP (OwnG.later oB_w4.out hb5)
  have acc_W5 := hidP (acc_w4.out.trans (hb5.mono acc_w4.out.size))
  have ac3_W5 := hidP (ac3_w4.out.trans (hb5.mono ac3_w4.out.size))
  clear pbF_w4 pb0_w4 pb1_w4 pbL_w4 at0_w4 at1_w4 at2_w4 at3_w4 atL_w4 rsF_w4 rs0_w4 rs1_w4 rsL_w4 oP_w4 oB_w4 acc_w4 ac3_w4 hb5 oB oS
  refine (HPO.out _ acc_W5.out).mono ?_
  rintro e w6 ⟨rfl, hb6⟩
  have pb0_w6 := (hb6.cell pbL_W5).trans pb0_W5
  have pb1_w6 := (hb6.cell pbL_W5).trans pb1_W5
  have pbF_w6 : ∀ o, w6.frozen? ⟨w.heap.size, o, none⟩ = false := fun o => (hb6.frozen pbL_W5).trans (pbF_W5 o)
  have pbL_w6 : w.heap.size < w6.heap.size := Nat.lt_of_lt_of_le pbL_W5 hb6.size
  have at0_w6 := (hb6.cell atL_W5).trans at0_W5
  have at1_w6 := (hb6.cell atL_W5).trans at1_W5
  have at2_w6 := (hb6.cell atL_W5).trans at2_W5
  have at3_w6 := (hb6.cell atL_W5).trans at3_W5
  have atL_w6 : w.heap.size + 1 < w6.heap.size := Nat.lt_of_lt_of_le atL_W5 hb6.size
  have rs0_w6 := (hb6.cell rsL_W5).trans rs0_W5
  have rs1_w6 := (hb6.cell rsL_W5).trans rs1_W5
  have rsF_w6 : ∀ o, w6.frozen? ⟨w.heap.size + 1 + 1, o, none⟩ = false := fun o => (hb6.frozen rsL_W5).trans (rsF_W5 o)
  have rsL_w6 : w.heap.size + 1 + 1 < w6.heap.size := Nat.lt_of_lt_of_le rsL_W5 hb6.size
  have ot0_w6 := (hb6.cell oL).trans o0
  have ot1_w6 := (hb6.cell oL).trans o1
  have otF_w6 : ∀ o, w6.frozen? ⟨w4.heap.size, o, none⟩ = false := fun o => (hb6.frozen oL).trans (oF o)
  have otL_w6 : w4.heap.size < w6.heap.size := Nat.lt_of_lt_of_le oL hb6.size
  have oP_w6 := hidP (OwnG.later oP_W5.out hb6)
  have oB_w6 := hidP (OwnG.later oB_W5.out hb6)
  have acc_w6 := hidP (acc_W5.out.trans (hb6.mono acc_W5.out.size))
  have ac3_w6 := hidP (ac3_W5.out.trans (hb6.mono ac3_W5.out.size))
  clear pbF_W5 pb0_W5 pb1_W5 pbL_W5 at0_W5 at1_W5 at2_W5 at3_W5 atL_W5 rsF_W5 rs0_W5 rs1_W5 rsL_W5 oF o0 o1 oL oP_W5 oB_W5 acc_W5 ac3_W5 hb6
  go_wp2_with fail
  refine (HPk.out _).mono ?_
  rintro e w7 ⟨rfl, hb7⟩
  have pb0_w7 := (hb7.cell pbL_w6).trans pb0_w6
  have pb1_w7 := (hb7.cell pbL_w6).trans pb1_w6
  have pbF_w7 : ∀ o, w7.frozen? ⟨w.heap.size, o, none⟩ = false := fun o => (hb7.frozen pbL_w6).trans (pbF_w6 o)
  have pbL_w7 : w.heap.size < w7.heap.size := Nat.lt_of_lt_of_le pbL_w6 hb7.size
  have at0_w7 := (hb7.cell atL_w6).trans at0_w6
  have at1_w7 := (hb7.cell atL_w6).trans at1_w6
  have at2_w7 := (hb7.cell atL_w6).trans at2_w6
  have at3_w7 := (hb7.cell atL_w6).trans at3_w6
  have atL_w7 : w.heap.size + 1 < w7.heap.size := Nat.lt_of_lt_of_le atL_w6 hb7.size
  have rs0_w7 := (hb7.cell rsL_w6).trans rs0_w6
  have rs1_w7 := (hb7.cell rsL_w6).trans rs1_w6
  have rsF_w7 : ∀ o, w7.frozen? ⟨w.heap.size + 1 + 1, o, none⟩ = false := fun o => (hb7.frozen rsL_w6).trans (rsF_w6 o)
  have rsL_w7 : w.heap.size + 1 + 1 < w7.heap.size := Nat.lt_of_lt_of_le rsL_w6 hb7.size
  have ot0_w7 := (hb7.cell otL_w6).trans ot0_w6
  have ot1_w7 := (hb7.cell otL_w6).trans ot1_w6
  have otF_w7 : ∀ o, w7.frozen? ⟨w4.heap.size, o, none⟩ = false := fun o => (hb7.frozen otL_w6).trans (otF_w6 o)
  have otL_w7 : w4.heap.size < w7.heap.size := Nat.lt_of_lt_of_le otL_w6 hb7.size
  have oP_w7 := hidP (OwnG.later oP_w6.out hb7)
  have oB_w7 := hidP (OwnG.later oB_w6.out hb7)
  have acc_w7 := hidP (acc_w6.out.trans (hb7.mono acc_w6.out.size))
  have ac3_w7 := hidP (ac3_w6.out.trans (hb7.mono ac3_w6.out.size))
  clear pbF_w6 pb0_w6 pb1_w6 pbL_w6 at0_w6 at1_w6 at2_w6 at3_w6 atL_w6 rsF_w6 rs0_w6 rs1_w6 rsL_w6 otF_w6 ot0_w6 ot1_w6 otL_w6 oP_w6 oB_w6 acc_w6 ac3_w6 hb7
  go_wp2_with fail
  refine (HOO.out _).mono ?_
  rintro e w8 ⟨rfl, h8⟩
  subst h8
  go_wp2_with fail
  go_loopw [9] (fun t9 wr => ∃ k : Nat, k ≤ i ∧ t9 = .int .i64 k ∧ Below w8.heap.size w8 wr) (fun t9 _ => nb - (intOf t9).toNat)
  case atStart => exact ⟨0, Nat.zero_le _, rfl, Below.refl _ _⟩
  case round =>
    obtain ⟨k, hki, rfl, hbr⟩ := hrel
    have HBr := hidP hbr
    have pb0_wr := (hbr.cell pbL_w7).trans pb0_w7
    have pb1_wr := (hbr.cell pbL_w7).trans pb1_w7
    have pbF_wr : ∀ o, wr.frozen? ⟨w.heap.size, o, none⟩ = false := fun o => (hbr.frozen pbL_w7).trans (pbF_w7 o)
    have pbL_wr : w.heap.size < wr.heap.size := Nat.lt_of_lt_of_le pbL_w7 hbr.size
    have at0_wr := (hbr.cell atL_w7).trans at0_w7
    have at1_wr := (hbr.cell atL_w7).trans at1_w7
    have at2_wr := (hbr.cell atL_w7).trans at2_w7
    have at3_wr := (hbr.cell atL_w7).trans at3_w7
    have atL_wr : w.heap.size + 1 < wr.heap.size := Nat.lt_of_lt_of_le atL_w7 hbr.size
    have rs0_wr := (hbr.cell rsL_w7).trans rs0_w7
    have rs1_wr := (hbr.cell rsL_w7).trans rs1_w7
    have rsF_wr : ∀ o, wr.frozen? ⟨w.heap.size + 1 + 1, o, none⟩ = false := fun o => (hbr.frozen rsL_w7).trans (rsF_w7 o)
    have rsL_wr : w.heap.size + 1 + 1 < wr.heap.size := Nat.lt_of_lt_of_le rsL_w7 hbr.size
    have ot0_wr := (hbr.cell otL_w7).trans ot0_w7
    have ot1_wr := (hbr.cell otL_w7).trans ot1_w7
    have otF_wr : ∀ o, wr.frozen? ⟨w4.heap.size, o, none⟩ = false := fun o => (hbr.frozen otL_w7).trans (otF_w7 o)
    have otL_wr : w4.heap.size < wr.heap.size := Nat.lt_of_lt_of_le otL_w7 hbr.size
    have oP_wr := hidP (OwnG.later oP_w7.out hbr)
    have oB_wr := hidP (OwnG.later oB_w7.out hbr)
    have acc_wr := hidP (acc_w7.out.trans (hbr.mono acc_w7.out.size))
    have ac3_wr := hidP (ac3_w7.out.trans (hbr.mono ac3_w7.out.size))
    clear pbF_w7 pb0_w7 pb1_w7 pbL_w7 at0_w7 at1_w7 at2_w7 at3_w7 atL_w7 rsF_w7 rs0_w7 rs1_w7 rsL_w7 otF_w7 ot0_w7 ot1_w7 otL_w7 oP_w7 oB_w7 acc_w7 ac3_w7 hbr
    have hkb : k < bs.length := by have := HN.out.2; omega
    obtain ⟨p', o', q, ha, hpL, hq, c0, c1, c2, c3, c4⟩ := rowBk (HRB.out.later acc_wr.out) k hkb
    simp only [Option.some.injEq, Addr.mk.injEq, and_true] at ha
    obtain ⟨rfl, rfl⟩ := ha
    rw [Nat.zero_add] at c0 c1 c2 c3 c4
    have eqp := eqPfx q.p pt
    have gk : decide ((k : Int) < (nb : Int)) = true := decide_eq_true (by omega)
    have gk2 : (k : Int) < (nb : Int) := by omega
    have gk3 : (0 : Int) ≤ (k : Int) := by omega
    by_cases hlt : k < i
    · rw [HX.out.1 k q hlt hq] at eqp
      go_wp2_with fail
      go_quiet (fail)
      go_wp2_with fail
      go_roundw
      case rel => exact ⟨k + 1, by omega, by go_num, below_drewN HBr.out _⟩
      case measure => simp [intOf]; omega
    · have hki' : i = k := by omega
      subst hki'
      have hqr : r = q := Option.some.inj (HX.out.2.1.symm.trans hq)
      subst hqr
      rw [peq_iff.2 HX.out.2.2.1] at eqp
      have hqt := HX.out.2.2.2
      go_wp2_with fail
      go_quiet (fail)
      go_wp2_with fail
      have hbd := below_drewN (Below.refl wr.heap.size wr) nq
      clear c0 c1 c2 c3 c4 hpL
      generalize wr.drewN nq = wd at *
      have pb0_wd := (hbd.cell pbL_wr).trans pb0_wr
      have pb1_wd := (hbd.cell pbL_wr).trans pb1_wr
      have pbF_wd : ∀ o, wd.frozen? ⟨w.heap.size, o, none⟩ = false := fun o => (hbd.frozen pbL_wr).trans (pbF_wr o)
      have pbL_wd : w.heap.size < wd.heap.size := Nat.lt_of_lt_of_le pbL_wr hbd.size
      have at0_wd := (hbd.cell atL_wr).trans at0_wr
      have at1_wd := (hbd.cell atL_wr).trans at1_wr
      have at2_wd := (hbd.cell atL_wr).trans at2_wr
      have at3_wd := (hbd.cell atL_wr).trans at3_wr
      have atL_wd : w.heap.size + 1 < wd.heap.size := Nat.lt_of_lt_of_le atL_wr hbd.size
      have rs0_wd := (hbd.cell rsL_wr).trans rs0_wr
      have rs1_wd := (hbd.cell rsL_wr).trans rs1_wr
      have rsF_wd : ∀ o, wd.frozen? ⟨w.heap.size + 1 + 1, o, none⟩ = false := fun o => (hbd.frozen rsL_wr).trans (rsF_wr o)
      have rsL_wd : w.heap.size + 1 + 1 < wd.heap.size := Nat.lt_of_lt_of_le rsL_wr hbd.size
      have ot0_wd := (hbd.cell otL_wr).trans ot0_wr
      have ot1_wd := (hbd.cell otL_wr).trans ot1_wr
      have otF_wd : ∀ o, wd.frozen? ⟨w4.heap.size, o, none⟩ = false := fun o => (hbd.frozen otL_wr).trans (otF_wr o)
      have otL_wd : w4.heap.size < wd.heap.size := Nat.lt_of_lt_of_le otL_wr hbd.size
      have oP_wd := hidP (OwnG.later oP_wr.out hbd)
      have oB_wd := hidP (OwnG.later oB_wr.out hbd)
      have acc_wd := hidP (acc_wr.out.trans (hbd.mono acc_wr.out.size))
      have ac3_wd := hidP (ac3_wr.out.trans (hbd.mono ac3_wr.out.size))
      clear pbF_wr pb0_wr pb1_wr pbL_wr at0_wr at1_wr at2_wr at3_wr atL_wr rsF_wr rs0_wr rs1_wr rsL_wr otF_wr ot0_wr ot1_wr otL_wr oP_wr oB_wr acc_wr ac3_wr hbd
      have HSx : Hid (∀ x, Below W3.heap.size W3 x → (x.cell? ⟨w.heap.size, 1, none⟩ = some (.slice (some ⟨h, 0, none⟩) nb nb) ∧ Below W3.heap.size W3 x)) := hidP fun x h =>
        ⟨(h.cell UL9).trans U1c, h⟩
      refine wp_region_held_drew (S := (fun x => x.cell? ⟨w.heap.size, 1, none⟩ = some (.slice (some ⟨h, 0, none⟩) nb nb) ∧ Below W3.heap.size W3 x)) (by kernel_rfl) ?_ (fun hHeld => ?_)
      · try dsimp only
        exact HSx.out _ (ac3_wd.out.drew)
      refine wpAnyH_take (i := 1) (oi := ⟨some 52, _, _, _, _, _⟩) (v := ?_) rfl (by kernel_rfl) (by kernel_rfl) (by kernel_rfl) (fun _ _ _ h => h) (Or.inl ⟨by rfl, ?_⟩) (by assumption) ?_
      rotate_left
      · intro w hSw
        try dsimp only at hSw
        go_simp
        try with_reducible rfl
      simp only [Act.put, List.setIfInBounds_toArray, List.set_cons_zero, List.set_cons_succ]
      refine wpAnyH_take (i := 2) (oi := ⟨some 53, _, _, _, _, _⟩) (v := ?_) rfl (by kernel_rfl) (by kernel_rfl) (by kernel_rfl) (fun _ _ _ h => h) (Or.inl ⟨by rfl, ?_⟩) (by assumption) ?_
      rotate_left
      · intro w hSw
        try dsimp only at hSw
        go_simp
        try with_reducible rfl
      simp only [Act.put, List.setIfInBounds_toArray, List.set_cons_zero, List.set_cons_succ]
      refine wpAnyH_take (i := 3) (oi := ⟨some 54, _, _, _, _, _⟩) (v := ?_) rfl (by kernel_rfl) (by kernel_rfl) (by kernel_rfl) (fun _ _ _ h => h) (Or.inl ⟨by rfl, ?_⟩) (by assumption) ?_
      rotate_left
      · intro w hSw
        try dsimp only at hSw
        go_simp
        try with_reducible rfl
      simp only [Act.put, List.setIfInBounds_toArray, List.set_cons_zero, List.set_cons_succ]
      refine wpAnyH_take (i := 4) (oi := ⟨some 55, _, _, _, _, _⟩) (v := ?_) rfl (by kernel_rfl) (by kernel_rfl) (by kernel_rfl) (fun _ _ _ h => h) (Or.inl ⟨by rfl, ?_⟩) (by assumption) ?_
      rotate_left
      · intro w hSw
        try dsimp only at hSw
        go_simp
        try with_reducible rfl
      simp only [Act.put, List.setIfInBounds_toArray, List.set_cons_zero, List.set_cons_succ]
      refine wpAnyH_take (i := 6) (oi := ⟨some 57, _, _, _, _, _⟩) (v := ?_) rfl (by kernel_rfl) (by kernel_rfl) (by kernel_rfl) (fun _ _ _ h => h) (Or.inl ⟨by rfl, ?_⟩) (by assumption) ?_
      rotate_left
      · intro w hSw
        try dsimp only at hSw
        go_simp
        try with_reducible rfl
      simp only [Act.put, List.setIfInBounds_toArray, List.set_cons_zero, List.set_cons_succ]
      refine wpAnyH_take (i := 7) (oi := ⟨some 58, _, _, _, _, _⟩) (v := ?_) rfl (by kernel_rfl) (by kernel_rfl) (by kernel_rfl) (fun _ _ _ h => h) (Or.inl ⟨by rfl, ?_⟩) (by assumption) ?_
      rotate_left
      · intro w hSw
        try dsimp only at hSw
        go_simp
        try with_reducible rfl
      simp only [Act.put, List.setIfInBounds_toArray, List.set_cons_zero, List.set_cons_succ]
      refine wpAnyH_take (i := 8) (oi := ⟨some 59, _, _, _, _, _⟩) (v := ?_) rfl (by kernel_rfl) (by kernel_rfl) (by kernel_rfl) (fun _ _ _ h => h) (Or.inl ⟨by rfl, ?_⟩) (by assumption) ?_
      rotate_left
      · intro w hSw
        try dsimp only at hSw
        go_simp
        try with_reducible rfl
      simp only [Act.put, List.setIfInBounds_toArray, List.set_cons_zero, List.set_cons_succ]
      refine wpAnyH_take (i := 9) (oi := ⟨some 60, _, _, _, _, _⟩) (v := ?_) rfl (by kernel_rfl) (by kernel_rfl) (by kernel_rfl) (fun _ _ _ h => h) (Or.inl ⟨by rfl, ?_⟩) (by assumption) ?_
      rotate_left
      · intro w hSw
        try dsimp only at hSw
        go_simp
        try with_reducible rfl
      simp only [Act.put, List.setIfInBounds_toArray, List.set_cons_zero, List.set_cons_succ]
      refine wpAnyH_take (i := 10) (oi := ⟨some 61, _, _, _, _, _⟩) (v := ?_) rfl (by kernel_rfl) (by kernel_rfl) (by kernel_rfl) (fun _ _ _ h => h) (Or.inl ⟨by rfl, ?_⟩) (by assumption) ?_
      rotate_left
      · intro w hSw
        try dsimp only at hSw
        go_simp
        try with_reducible rfl
      simp only [Act.put, List.setIfInBounds_toArray, List.set_cons_zero, List.set_cons_succ]
      refine wpAnyH_ready (rs := [0]) (by kernel_rfl) (by simp) ?_
      refine AllReadyH.cons rfl (fun K hK => ?_) AllReadyH.nil
      go_simp
      have z1 := OwnG.drewG (own_zeroG KBk wd wd.heap.size 62 (Nat.le_refl _))
      have zb1 := (alloc_below wd (.cells #[] 62)).drew
      have zs1 : wd.heap.size + 1 ≤ (wd.alloc (.cells #[] 62)).drew.heap.size := by show wd.heap.size + 1 ≤ (wd.alloc (.cells #[] 62)).heap.size; simp
      have bel1 := ac3_wd.out.trans (zb1.mono ac3_wd.out.size)
      generalize (wd.alloc (.cells #[] 62)).drew = v1 at *
      refine hK.out _ _ ?_ (fun hHeld => ?_)
      · try dsimp only
        exact HSx.out _ bel1
      clear hK K
      refine wpAnyH_ready (rs := [5]) (by kernel_rfl) (by simp) ?_
      refine AllReadyH.cons rfl (fun K hK => ?_) AllReadyH.nil
      have rw1 : Below w.heap.size w v1 := acc_wd.out.trans (zb1.mono acc_wd.out.size)
      refine step_appG Tryz.tyBk _ rfl (.tmp 51) (.tmp 55) 32 rfl wd.heap.size (some ⟨wd.heap.size, 0, none⟩) 0 0 i [] (bs.take i) (.slice (some ⟨h, 0, none⟩) i nb) rfl rfl HL.out.1.symm z1 rfl (src_rowG Tryz.tyBk.1 i nb (by show 0 < 5; omega) HL.out.1.symm (RowG.takeG (HRB.out.later rw1) i) (fun e => by cases e)) (by omega) (by omega) ?_
      intro a2 c2 v2 ho2 hg2 ht2
      rw [Nat.zero_add, List.nil_append] at ho2
      have zs2 := hg2.size
      have bel2 := Below.grown bel1 hg2 bel1.size (fun j hj => by rw [ob_some, Option.some.injEq] at hj; have := ac3_wd.out.size; omega)
      have zb2 := Below.grown zb1 hg2 zb1.size (fun j hj => by rw [ob_some, Option.some.injEq] at hj; omega)
      rw [Nat.zero_add]
      refine hK.out _ _ ?_ (fun hHeld => ?_)
      · try dsimp only
        exact HSx.out _ bel2
      clear hK K
      refine wpAnyH_ready (rs := [11]) (by kernel_rfl) (by simp) ?_
      refine AllReadyH.cons rfl (fun K hK => ?_) AllReadyH.nil
      have rw2 : Below w.heap.size w v2 := acc_wd.out.trans (zb2.mono acc_wd.out.size)
      refine step_appG Tryz.tyBk _ rfl (.tmp 56) (.tmp 61) 32 rfl wd.heap.size a2 i c2 (nb - (i + 1)) (bs.take i) (bs.drop (i + 1)) (.slice (some ⟨h, (i + 1) * 5, none⟩) (nb - (i + 1)) (nb - (i + 1))) rfl HL.out.1.symm HL.out.2.symm ho2 rfl (src_rowG Tryz.tyBk.1 _ _ (by show 0 < 5; omega) HL.out.2.symm (RowG.fromG (HRB.out.later rw2) (i + 1)) (fun e => by cases e)) (by omega) (by omega) ?_
      intro a3 c3 v3 ho3 hg3 ht3
      have lo2 := fun j hj => (OwnG.lt ho2 j hj).1
      have bel3 := Below.grown bel2 hg3 bel2.size (fun j hj => by have := lo2 j hj; have := ac3_wd.out.size; omega)
      have zb3 := Below.grown zb2 hg3 zb2.size (fun j hj => by have := lo2 j hj; omega)
      have heM : i + (nb - (i + 1)) = nb - 1 := by omega
      rw [heM, erase_eqB] at ho3
      rw [heM]
      refine hK.out _ _ ?_ (fun hHeld => ?_)
      · try dsimp only
        exact HSx.out _ bel3
      clear hK K
      refine wpAnyH_take (i := 12) (oi := ⟨some 63, _, _, _, _, _⟩) (v := ?_) rfl (by kernel_rfl) (by kernel_rfl) (by kernel_rfl) (fun _ _ _ h => h) (Or.inl ⟨by rfl, ?_⟩) (by assumption) ?_
      rotate_left
      · intro w hSw
        try dsimp only at hSw
        go_simp
        try with_reducible rfl
      simp only [Act.put, List.setIfInBounds_toArray]
      have t0 := (zb3.cell otL_wd).trans ot0_wd
      have t1 := (zb3.cell otL_wd).trans ot1_wd
      have tF : ∀ o, v3.frozen? ⟨w4.heap.size, o, none⟩ = false := fun o => (zb3.frozen otL_wd).trans (otF_wd o)
      have s0 := (zb3.cell rsL_wd).trans rs0_wd
      have s1 := (zb3.cell rsL_wd).trans rs1_wd
      have sF : ∀ o, v3.frozen? ⟨w.heap.size + 1 + 1, o, none⟩ = false := fun o => (zb3.frozen rsL_wd).trans (rsF_wd o)
      have w43 : W3.heap.size ≤ w4.heap.size := w43c
      refine wpAnyH_ready (rs := [13]) (by kernel_rfl) (by simp) ?_
      refine AllReadyH.cons rfl (fun K hK => ?_) AllReadyH.nil
      go_simp
      refine hK.out _ _ ?_ (fun hHeld => ?_)
      · try dsimp only
        exact HSx.out _ (bel3.setCell w43 _)
      clear hK K
      have HE := hidP (hHeld.2)
      refine wpAnyH_done (by kernel_rfl) ?_ _
      clear hHeld
      have r0 : (v3.setCell ⟨w4.heap.size, 1, none⟩ (.slice a3 (nb - 1) c3)).cell? ⟨w.heap.size + 1 + 1, 0, none⟩ = some (.slice none 0 0) := cell_set1b s0 (by omega)
      have r1 : (v3.setCell ⟨w4.heap.size, 1, none⟩ (.slice a3 (nb - 1) c3)).cell? ⟨w.heap.size + 1 + 1, 1, none⟩ = some (.slice none 0 0) := cell_set1b s1 (by omega)
      have rF : ∀ o, (v3.setCell ⟨w4.heap.size, 1, none⟩ (.slice a3 (nb - 1) c3)).frozen? ⟨w.heap.size + 1 + 1, o, none⟩ = false := fun o => frz_set1b (sF o) (by omega)
      have n0 : (v3.setCell ⟨w4.heap.size, 1, none⟩ (.slice a3 (nb - 1) c3)).cell? ⟨w4.heap.size, 0, none⟩ = some (.slice a np c) := by simp [go_sem, t0]
      have n1 : (v3.setCell ⟨w4.heap.size, 1, none⟩ (.slice a3 (nb - 1) c3)).cell? ⟨w4.heap.size, 1, none⟩ = some (.slice a3 (nb - 1) c3) := by simp [go_sem, t1]
      have lB := fun j hj => (OwnG.lt oP_wd.out j hj).2
      have oB9 := hidP (OwnG.set1b (u := .slice a3 (nb - 1) c3) ho3 otL_wd)
      have oP9 := hidP (OwnG.grown (OwnG.later oP_wd.out zb3) (grown_cellG v3 w4.heap.size 1 (.slice a3 (nb - 1) c3)) (fun j hj e => by have := HLB4.out j hj; simp at e; omega))
      have ac9 := hidP (Below.setCell (p := ⟨w4.heap.size, 1, none⟩) (acc_wd.out.trans (zb3.mono acc_wd.out.size)) (show w.heap.size ≤ w4.heap.size by omega) (.slice a3 (nb - 1) c3))
      have lP := fun j hj => (OwnG.lt ho3 j hj).1
      have HD := hidP (And.intro lB lP)
      clear lB lP ho3 hg3 ht3 ho2 hg2 ht2 z1 t0 t1 tF s0 s1 sF
      generalize (v3.setCell ⟨w4.heap.size, 1, none⟩ (.slice a3 (nb - 1) c3)) = V at *
      go_wp2_with fail
      refine bodyPost_ret (v := .tuple #[.agg #[.slice a np c, .slice a3 (nb - 1) c3], .int .i64 0]) (by simp [results, Tryz.results14, go_sem, r0, r1]) rfl ⟨_, _, _, _, rfl, (OwnG.set2 oP9.out kL9).mono (Nat.le_of_lt UL9), (OwnG.set2 oB9.out (by omega)).mono (by omega), (fun k h1 h2 => by have e1 := HD.out.1 k h1; have e2 := HD.out.2 k h2; omega), below_set2 ac9.out (by omega)⟩

end Go.Proofs.YtmbmekcppmbokaaGreat

/-
  The two Free answer alike.
-/
namespace Go.Proofs.YtmbmekcppmbokaaGreat
open Go.RowKit

theorem free_both (pt : Pf) (ow : ByteArray) (how : ow.size ≤ 9223372036854775807) (np nb : Nat) (ps : List Pl) (bs : List Bk) (hnp : np = ps.length) (hnb : nb = bs.length) (hl : np ≤ 1048576) (hl' : nb ≤ 1048576) (hst : ∀ q ∈ bs, q.t.size ≤ 9223372036854775807) :
    ∃ (PS : List Pl) (NP : Nat) (BS : List Bk) (NB : Nat) (C : Int), NP = PS.length ∧ NB = BS.length ∧ NP ≤ 1048577 ∧ NB ≤ 1048577 ∧ (∀ (g h : Nat) (W : World), RowG KPl W (some ⟨g, 0, none⟩) ps → RowG KBk W (some ⟨h, 0, none⟩) bs → Calls Tryz.prog 14 #[.agg #[.slice (some ⟨g, 0, none⟩) np np, .slice (some ⟨h, 0, none⟩) nb nb], .agg #[.bool pt.s, .int .i64 pt.H.toInt, .int .i64 pt.L.toInt, .int .i64 pt.b], .string ow] W fun e w' => ∃ a c b d, e = .returned (.tuple #[.agg #[.slice a NP c, .slice b NB d], .int .i64 C]) ∧ OwnG KPl 60 w' W.heap.size (.slice a NP c) PS ∧ OwnG KBk 62 w' W.heap.size (.slice b NB d) BS ∧ (∀ k, (Value.slice a NP c).ownBlock = some k → (Value.slice b NB d).ownBlock ≠ some k) ∧ Below W.heap.size W w') ∧ (∀ (g h : Nat) (W : World), RowG KPl W (some ⟨g, 0, none⟩) ps → RowG KBk W (some ⟨h, 0, none⟩) bs → Calls Tryz.prog 15 #[.agg #[.slice (some ⟨g, 0, none⟩) np np, .slice (some ⟨h, 0, none⟩) nb nb], .agg #[.bool pt.s, .int .i64 pt.H.toInt, .int .i64 pt.L.toInt, .int .i64 pt.b], .string ow] W fun e w' => ∃ a c b d, e = .returned (.tuple #[.agg #[.slice a NP c, .slice b NB d], .int .i64 C]) ∧ OwnG KPl 60 w' W.heap.size (.slice a NP c) PS ∧ OwnG KBk 62 w' W.heap.size (.slice b NB d) BS ∧ (∀ k, (Value.slice a NP c).ownBlock = some k → (Value.slice b NB d).ownBlock ≠ some k) ∧ Below W.heap.size W w') := by
  by_cases hr : planB ps bs = true
  · by_cases hk : pt.pk = true
    · by_cases ho : ownB ow = true
      · by_cases hx : ∃ (i : Nat) (q : Bk), bs[i]? = some q ∧ q.p = pt ∧ (q.t.toList == ow.toList) = true
        · obtain ⟨i, q, hi, hqp, hqt⟩ := hx
          have hin : i < bs.length := (List.getElem?_eq_some_iff.1 hi).1
          refine ⟨ps, np, bs.eraseIdx i, nb - 1, 0, hnp, by rw [List.length_eraseIdx_of_lt hin, hnb], by omega, by omega, fun g h W e1 e2 => ?_, fun g h W e1 e2 => iFree_e pt ow how g h np nb ps bs W hnp hnb e1 e2 hl hl' hst hr hk ho i q hi hqp hqt⟩
          by_cases hcj : nb = i + 1
          · exact sFree_e0 pt ow how g h np nb ps bs W hnp hnb e1 e2 hl hl' hst hr hk ho i q hi hqp hqt hcj
          · exact sFree_e1 pt ow how g h np nb ps bs W hnp hnb e1 e2 hl hl' hst hr hk ho i q hi hqp hqt hcj
        · have hno : ∀ q ∈ bs, q.p = pt → (q.t.toList == ow.toList) = false := by
            intro q hq hqp
            cases he : (q.t.toList == ow.toList)
            · rfl
            · obtain ⟨i, hi⟩ := List.getElem?_of_mem hq
              exact absurd ⟨i, q, hi, hqp, he⟩ hx
          refine ⟨ps, np, bs, nb, 4, hnp, hnb, by omega, by omega, fun g h W e1 e2 => sFree_d pt ow how g h np nb ps bs W hnp hnb e1 e2 hl hl' hst hr hk ho hno, fun g h W e1 e2 => ?_⟩
          by_cases hy : ∃ q ∈ bs, q.p = pt
          · obtain ⟨q, hq, hqp⟩ := hy
            exact iFree_d2 pt ow how g h np nb ps bs W hnp hnb e1 e2 hl hl' hst hr hk ho q hq hqp (hno q hq hqp)
          · exact iFree_d pt ow how g h np nb ps bs W hnp hnb e1 e2 hl hl' hst hr hk ho (fun q hq hqp => hy ⟨q, hq, hqp⟩)
      · have ho' : ownB ow = false := by simpa using ho
        exact ⟨ps, np, bs, nb, 1, hnp, hnb, by omega, by omega, fun g h W e1 e2 => sFree_c pt ow how g h np nb ps bs W hnp hnb e1 e2 hl hl' hst hr hk ho', fun g h W e1 e2 => iFree_c pt ow how g h np nb ps bs W hnp hnb e1 e2 hl hl' hst hr hk ho'⟩
    · have hk' : pt.pk = false := by simpa using hk
      exact ⟨ps, np, bs, nb, 1, hnp, hnb, by omega, by omega, fun g h W e1 e2 => sFree_b pt ow how g h np nb ps bs W hnp hnb e1 e2 hl hl' hst hr hk', fun g h W e1 e2 => iFree_b pt ow how g h np nb ps bs W hnp hnb e1 e2 hl hl' hst hr hk'⟩
  · have hr' : planB ps bs = false := by simpa using hr
    exact ⟨ps, np, bs, nb, 1, hnp, hnb, by omega, by omega, fun g h W e1 e2 => sFree_a pt ow how g h np nb ps bs W hnp hnb e1 e2 hl hl' hst hr', fun g h W e1 e2 => iFree_a pt ow how g h np nb ps bs W hnp hnb e1 e2 hl hl' hst hr'⟩

end Go.Proofs.YtmbmekcppmbokaaGreat
