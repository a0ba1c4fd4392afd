/-
  The two Carve answer alike.
-/
import Derived.Test.YtdbcdichmmcnbaaGreatZK43
import Derived.Test.YtdbcdichmmcnbaaGreatZK49
import Derived.Test.YtdbcdichmmcnbaaGreatRows
import Derived.Deep.RegionHeld3
import Derived.Test.YtdbcdichmmcnbaaGreatZK39
import Derived.Test.YtdbcdichmmcnbaaGreatZK1
import Derived.Test.YtdbcdichmmcnbaaGreatZK15
import Derived.Laws.BytesArg
namespace Go.Proofs.YtdbcdichmmcnbaaGreat
open Go.RowKit Go.Maps Go.Deep

theorem carve_both (pt : Pf) (ow : ByteArray) (how : ow.size ≤ 9223372036854775807) (np nb : Nat) (ps : List Pl) (bs : List Bk) (hnp : np = ps.length) (hnb : nb = bs.length) (hl : np ≤ 1048576) (hl' : nb ≤ 1048576) (hst : ∀ q ∈ bs, q.t.size ≤ 9223372036854775807) :
    ∃ (O : CvO) (bits : Int) (zs : List Sp), O = cvO ps bs pt ow bits zs ∧ (∀ z r, zs = z :: r → (⟨z.s, z.H, z.L, bits⟩ : Pf).pk = true ∧ winP ⟨z.s, z.H, z.L, bits⟩ pt = true ∧ ∀ u ∈ fil bs pt, ovP u ⟨z.s, z.H, z.L, bits⟩ = false) ∧ (∀ (j : Nat) (q : Pl), plc pt ps = (j : Int) → ps[j]? = some q → bits = q.n) ∧ (∀ (ap : Option Addr) (cp : Nat) (ab : Option Addr) (cb : Nat) (W : World), RowG KPl W ap ps → RowG KBk W ab bs → (ap = none → cp = 0) → (ab = none → cb = 0) → Calls Tryz.prog 9 #[.agg #[.slice ap np cp, .slice ab nb cb], .agg #[.bool pt.s, .int .i64 pt.H.toInt, .int .i64 pt.L.toInt, .int .i64 pt.b], .string ow] W fun e w' => ∃ a c b n d, e = .returned (.tuple #[.agg #[.slice a np c, .slice b n d], .agg #[.bool O.f.s, .int .i64 O.f.H.toInt, .int .i64 O.f.L.toInt, .int .i64 O.f.b], .int .i64 O.c]) ∧ n = O.b.length ∧ OwnG KPl 46 w' W.heap.size (.slice a np c) ps ∧ OwnG KBk 38 w' W.heap.size (.slice b n d) O.b ∧ (∀ k, (Value.slice a np c).ownBlock = some k → (Value.slice b n d).ownBlock ≠ some k) ∧ Below W.heap.size W w') ∧ (∀ (ap : Option Addr) (cp : Nat) (ab : Option Addr) (cb : Nat) (W : World), RowG KPl W ap ps → RowG KBk W ab bs → Calls Tryz.prog 8 #[.agg #[.slice ap np cp, .slice ab nb cb], .agg #[.bool pt.s, .int .i64 pt.H.toInt, .int .i64 pt.L.toInt, .int .i64 pt.b], .string ow] W fun e w' => ∃ a c b n d, e = .returned (.tuple #[.agg #[.slice a np c, .slice b n d], .agg #[.bool O.f.s, .int .i64 O.f.H.toInt, .int .i64 O.f.L.toInt, .int .i64 O.f.b], .int .i64 O.c]) ∧ n = O.b.length ∧ OwnG KPl 46 w' W.heap.size (.slice a np c) ps ∧ OwnG KBk 38 w' W.heap.size (.slice b n d) O.b ∧ (∀ k, (Value.slice a np c).ownBlock = some k → (Value.slice b n d).ownBlock ≠ some k) ∧ Below W.heap.size W w') := by
  obtain ⟨bits, hb⟩ : ∃ bits : Int, ∀ (j : Nat) (q : Pl), plc pt ps = (j : Int) → ps[j]? = some q → bits = q.n := by
    by_cases h : plc pt ps < 0
    · exact ⟨0, fun j q hj _ => by omega⟩
    · obtain ⟨j, q, hj, hq⟩ := plc_get h
      refine ⟨q.n, fun j' q' hj' hq' => ?_⟩
      have e : j = j' := by omega
      subst e
      rw [Option.some.inj (hq.symm.trans hq')]
  by_cases hk : pt.pk = true ∧ bs.length ≤ 60
  · obtain ⟨zs, hI, hS, hz⟩ := cv_first pt hk.1 (fil bs pt) fil_pk (Nat.le_trans (fil_len' bs pt) hk.2) bits
    exact ⟨_, bits, zs, rfl, hz, hb, fun ap cp ab cb W e1 e2 c1 c2 => sCarve_any pt ow how ap np cp ab nb cb ps bs bits zs W hnp hnb e1 e2 c1 c2 hl hl' hst hb (fun _ _ => hS) hz, fun ap cp ab cb W e1 e2 => iCarve_any pt ow how ap np cp ab nb cb ps bs bits zs W hnp hnb e1 e2 hl hl' hst hb (fun _ _ => hI) hz⟩
  · have hz : ∀ (z : Sp) (r : List Sp), ([] : List Sp) = z :: r → (⟨z.s, z.H, z.L, bits⟩ : Pf).pk = true ∧ winP ⟨z.s, z.H, z.L, bits⟩ pt = true ∧ ∀ u ∈ fil bs pt, ovP u ⟨z.s, z.H, z.L, bits⟩ = false := fun z r e => by cases e
    exact ⟨_, bits, [], rfl, hz, hb, fun ap cp ab cb W e1 e2 c1 c2 => sCarve_any pt ow how ap np cp ab nb cb ps bs bits [] W hnp hnb e1 e2 c1 c2 hl hl' hst hb (fun h1 h2 => absurd ⟨h1, h2⟩ hk) hz, fun ap cp ab cb W e1 e2 => iCarve_any pt ow how ap np cp ab nb cb ps bs bits [] W hnp hnb e1 e2 hl hl' hst hb (fun h1 h2 => absurd ⟨h1, h2⟩ hk) hz⟩

end Go.Proofs.YtdbcdichmmcnbaaGreat

/-
  A region that draws its order, by an invariant of what has come up: each operation is run once, whatever the order.
-/
namespace Go.Proofs.YtdbcdichmmcnbaaGreat
theorem ready_un {ops : Array Oper} {md : Region.Mode} {listed : Array Bool} {i : Nat} (h : i ∈ Region.ready md ops listed) : listed.getD i true = false := by
  unfold Region.ready at h
  rw [List.mem_filter] at h
  have h2 := h.2
  rw [Bool.and_eq_true, Bool.not_eq_true'] at h2
  exact h2.1
theorem ready_lt {ops : Array Oper} {md : Region.Mode} {listed : Array Bool} {i : Nat} (h : i ∈ Region.ready md ops listed) : i < ops.size := by
  unfold Region.ready at h
  rw [List.mem_filter, List.mem_range] at h
  exact h.1
theorem ready_dep {ops : Array Oper} {md : Region.Mode} {listed : Array Bool} {i : Nat} (j : Nat) (h : i ∈ Region.ready md ops listed) (hd : ((ops[i]?).map fun o => o.after.any fun e => Region.binds md e && e.on == j).getD false = true) : listed.getD j false = true := by
  unfold Region.ready at h
  rw [List.mem_filter] at h
  have h2 := h.2
  rw [Bool.and_eq_true] at h2
  have h3 := h2.2
  cases ho : ops[i]? with
  | none => rw [ho] at hd; simp at hd
  | some o =>
    rw [ho] at hd h3
    simp only [Option.map_some, Option.getD_some] at hd h3
    rw [Array.any_eq_true] at hd
    obtain ⟨k, hk, hb⟩ := hd
    rw [Array.all_eq_true] at h3
    have h4 := h3 k hk
    rw [Bool.and_eq_true, beq_iff_eq] at hb
    rw [hb.1, hb.2] at h4
    simpa using h4
theorem ready_in {ops : Array Oper} {md : Region.Mode} {listed : Array Bool} {i : Nat} (hi : i < ops.size) (h : (!listed.getD i true && ((ops[i]?).map (·.after.all fun e => !Region.binds md e || listed.getD e.on false)).getD false) = true) : i ∈ Region.ready md ops listed := by
  unfold Region.ready
  rw [List.mem_filter, List.mem_range]
  exact ⟨hi, h⟩
def cntL : List Bool → Nat
  | [] => 0
  | true :: t => cntL t
  | false :: t => cntL t + 1
def cntF (l : Array Bool) : Nat := cntL l.toList
theorem cntL_set : ∀ (l : List Bool) (i : Nat), l[i]? = some false → cntL (l.set i true) + 1 = cntL l
  | [], _, h => by simp at h
  | b :: t, 0, h => by
      simp at h; subst h; rfl
  | b :: t, i + 1, h => by
      have := cntL_set t i (by simpa using h)
      cases b
      · show (cntL (t.set i true) + 1) + 1 = cntL t + 1; omega
      · exact this
theorem cntL_no : ∀ (l : List Bool) (i : Nat), l[i]? = some false → 0 < cntL l
  | [], _, h => by simp at h
  | b :: t, 0, h => by simp at h; subst h; exact Nat.succ_pos _
  | b :: t, i + 1, h => by
      have := cntL_no t i (by simpa using h)
      cases b
      · exact Nat.succ_pos _
      · exact this
theorem getD_at {l : Array Bool} {i : Nat} (h : l.getD i true = false) : l.toList[i]? = some false := by
  rw [Array.getD_eq_getD_getElem?] at h
  rw [Array.getElem?_toList]
  cases hx : l[i]? with
  | none => rw [hx] at h; simp at h
  | some b => rw [hx] at h; simp at h; rw [h]
theorem cnt_set {l : Array Bool} {i : Nat} (h : l.getD i true = false) : cntF (l.setIfInBounds i true) + 1 = cntF l := by
  unfold cntF
  rw [Array.toList_setIfInBounds]
  exact cntL_set _ _ (getD_at h)
theorem wpAnyH_inv {P : Program} {ops : Array Oper} {Q : Exit → Act → World → Prop} {md : Region.Mode} {S : World → Prop} (I : Array Bool → Act → World → Prop)
    (hstep : ∀ listed a w i, I listed a w → S w → i ∈ Region.ready md ops listed → wpOp P ops Q i (fun a' w' => S w' ∧ I (listed.setIfInBounds i true) a' w') a w)
    (hdone : ∀ listed a w, I listed a w → S w → Region.ready md ops listed = [] → Q .normal a w) :
    ∀ (fuel : Nat) (listed : Array Bool) (a : Act) (w : World), cntF listed ≤ fuel → I listed a w → S w → wpAnyH P md ops Q S fuel listed a w
  | 0, listed, a, w, hc, hI, hS => by
      have hr : Region.ready md ops listed = [] := by
        rw [List.eq_nil_iff_forall_not_mem]
        intro i hi
        have := cntL_no _ _ (getD_at (ready_un hi))
        unfold cntF at hc
        omega
      exact wpAnyH_done hr (hdone _ _ _ hI hS hr) 0
  | fuel + 1, listed, a, w, hc, hI, hS =>
      ⟨fun h0 => hdone _ _ _ hI hS h0, fun i hi => wpOp_mono (fun a' w' h => ⟨h.1, wpAnyH_inv I hstep hdone fuel _ a' w' (by have := cnt_set (ready_un hi); omega) h.2 h.1⟩) (hstep _ _ _ i hI hS hi)⟩
/-- The beginning: what is kept is said of the frame at hand. -/
theorem run_inv {P : Program} {ops : Array Oper} {Q : Exit → Act → World → Prop} {md : Region.Mode} {S : World → Prop} (J : Act → Array Bool → Act → World → Prop) {fuel : Nat} {listed : Array Bool} {A : Act} {w : World} (hc : cntF listed ≤ fuel) (hS : S w) (h0 : J A listed A w)
    (hstep : ∀ listed a w i, J A listed a w → S w → i ∈ Region.ready md ops listed → wpOp P ops Q i (fun a' w' => S w' ∧ J A (listed.setIfInBounds i true) a' w') a w)
    (hdone : ∀ listed a w, J A listed a w → S w → Region.ready md ops listed = [] → Q .normal a w) : wpAnyH P md ops Q S fuel listed A w :=
  wpAnyH_inv (J A) hstep hdone fuel listed A w hc h0 hS

end Go.Proofs.YtdbcdichmmcnbaaGreat

/-
  What a drawn region keeps that makes two boxes, calls and stores: by what has come up.
-/
namespace Go.Proofs.YtdbcdichmmcnbaaGreat
open Go.RowKit Go.Maps Go.Deep

structure CvR (np nb : Nat) (ps : List Pl) (bs : List Bk) (NP : Nat) (PS : List Pl) (BS : List Bk) (pt F : Pf) (C : Int) (B : Nat) (b1 b3 b5 b6 b7 b8 b9 b10 b11 b12 b13 b14 : Bool) (v1 v3 v5 v6 v7 v8 v9 v10 v11 v14 : Value) (w : World) : Prop where
  f1 : b1 = true → b5 = false → ∃ g h, v1 = .agg #[.slice (some ⟨g, 0, none⟩) np np, .slice (some ⟨h, 0, none⟩) nb nb] ∧ RowG KPl w (some ⟨g, 0, none⟩) ps ∧ RowG KBk w (some ⟨h, 0, none⟩) bs
  f3 : b3 = true → v3 = .agg #[.bool pt.s, .int .i64 pt.H.toInt, .int .i64 pt.L.toInt, .int .i64 pt.b]
  f5 : b5 = true → ∃ a c b n d, v5 = .tuple #[.agg #[.slice a NP c, .slice b n d], .agg #[.bool F.s, .int .i64 F.H.toInt, .int .i64 F.L.toInt, .int .i64 F.b], .int .i64 C] ∧ (n = BS.length ∧ OwnG KPl 46 w B (.slice a NP c) PS ∧ OwnG KBk 38 w B (.slice b n d) BS ∧ (∀ k, (Value.slice a NP c).ownBlock = some k → (Value.slice b n d).ownBlock ≠ some k)) ∧ (b10 = true → ∀ p, v10 = .pointer (some ⟨p, 0, none⟩) → (∀ k, (Value.slice a NP c).ownBlock = some k → k ≠ p) ∧ (∀ k, (Value.slice b n d).ownBlock = some k → k ≠ p)) ∧ (b11 = true → ∀ p, v11 = .pointer (some ⟨p, 0, none⟩) → (∀ k, (Value.slice a NP c).ownBlock = some k → k ≠ p) ∧ (∀ k, (Value.slice b n d).ownBlock = some k → k ≠ p)) ∧ (b7 = true → v7 = .agg #[.slice a NP c, .slice b n d]) ∧ (b12 = true → ∀ p, v10 = .pointer (some ⟨p, 0, none⟩) → w.cell? ⟨p, 0, none⟩ = some (.slice a NP c) ∧ w.cell? ⟨p, 1, none⟩ = some (.slice b n d))
  f6 : b6 = true → v6 = v5
  f8 : b8 = true → v8 = .agg #[.bool F.s, .int .i64 F.H.toInt, .int .i64 F.L.toInt, .int .i64 F.b]
  f9 : b9 = true → v9 = .int .i64 C
  f14 : b14 = true → v14 = .int .i64 C
  f10 : b10 = true → ∃ p, v10 = .pointer (some ⟨p, 0, none⟩) ∧ B ≤ p ∧ p < w.heap.size ∧ (∀ o, w.frozen? ⟨p, o, none⟩ = false) ∧ (b12 = false → w.cell? ⟨p, 0, none⟩ = some (.slice none 0 0) ∧ w.cell? ⟨p, 1, none⟩ = some (.slice none 0 0))
  f11 : b11 = true → ∃ p, v11 = .pointer (some ⟨p, 0, none⟩) ∧ B ≤ p ∧ p < w.heap.size ∧ (∀ o, w.frozen? ⟨p, o, none⟩ = false) ∧ (b13 = false → w.cell? ⟨p, 0, none⟩ = some (.bool false) ∧ w.cell? ⟨p, 1, none⟩ = some (.int .i64 0) ∧ w.cell? ⟨p, 2, none⟩ = some (.int .i64 0) ∧ w.cell? ⟨p, 3, none⟩ = some (.int .i64 0)) ∧ (b13 = true → w.cell? ⟨p, 0, none⟩ = some (.bool F.s) ∧ w.cell? ⟨p, 1, none⟩ = some (.int .i64 F.H.toInt) ∧ w.cell? ⟨p, 2, none⟩ = some (.int .i64 F.L.toInt) ∧ w.cell? ⟨p, 3, none⟩ = some (.int .i64 F.b))
  g : b10 = true → b11 = true → ∀ p q, v10 = .pointer (some ⟨p, 0, none⟩) → v11 = .pointer (some ⟨q, 0, none⟩) → p ≠ q
  dd : b5 = false → b6 = false ∧ b7 = false ∧ b8 = false ∧ b9 = false ∧ b12 = false ∧ b13 = false ∧ b14 = false
  k1 : b12 = true → b10 = true
  k2 : b13 = true → b11 = true ∧ b12 = true
theorem cells2 {w w' : World} {p : Nat} {u v : Value} (hp : p < w.heap.size) (hb : Below w.heap.size w w') (h : w.cell? ⟨p, 0, none⟩ = some u ∧ w.cell? ⟨p, 1, none⟩ = some v) : w'.cell? ⟨p, 0, none⟩ = some u ∧ w'.cell? ⟨p, 1, none⟩ = some v := ⟨(hb.cell hp).trans h.1, (hb.cell hp).trans h.2⟩
theorem cells4 {w w' : World} {p : Nat} {u v x y : Value} (hp : p < w.heap.size) (hb : Below w.heap.size w w') (h : w.cell? ⟨p, 0, none⟩ = some u ∧ w.cell? ⟨p, 1, none⟩ = some v ∧ w.cell? ⟨p, 2, none⟩ = some x ∧ w.cell? ⟨p, 3, none⟩ = some y) : w'.cell? ⟨p, 0, none⟩ = some u ∧ w'.cell? ⟨p, 1, none⟩ = some v ∧ w'.cell? ⟨p, 2, none⟩ = some x ∧ w'.cell? ⟨p, 3, none⟩ = some y := ⟨(hb.cell hp).trans h.1, (hb.cell hp).trans h.2.1, (hb.cell hp).trans h.2.2.1, (hb.cell hp).trans h.2.2.2⟩
theorem CvR.later {np nb : Nat} {ps : List Pl} {bs : List Bk} {NP : Nat} {PS : List Pl} {BS : List Bk} {pt F : Pf} {C : Int} {B : Nat} {b1 b3 b5 b6 b7 b8 b9 b10 b11 b12 b13 b14 : Bool} {v1 v3 v5 v6 v7 v8 v9 v10 v11 v14 : Value} {w w' : World} (h : CvR np nb ps bs NP PS BS pt F C B b1 b3 b5 b6 b7 b8 b9 b10 b11 b12 b13 b14 v1 v3 v5 v6 v7 v8 v9 v10 v11 v14 w) (hb : Below w.heap.size w w') : CvR np nb ps bs NP PS BS pt F C B b1 b3 b5 b6 b7 b8 b9 b10 b11 b12 b13 b14 v1 v3 v5 v6 v7 v8 v9 v10 v11 v14 w' where
  f1 := fun e e9 => by
    obtain ⟨g, h', e1, r1, r2⟩ := h.f1 e e9
    exact ⟨g, h', e1, r1.later hb, r2.later hb⟩
  f3 := h.f3
  f5 := fun e => by
    obtain ⟨a, c, b, n, d, e1, ⟨n1, o1, o2, o3⟩, x1, x2, x3, x4⟩ := h.f5 e
    refine ⟨a, c, b, n, d, e1, ⟨n1, OwnG.later o1 hb, OwnG.later o2 hb, o3⟩, x1, x2, x3, fun e2 p ep => ?_⟩
    obtain ⟨p', ep', _, lp, _⟩ := h.f10 (h.k1 e2)
    have : p = p' := by rw [ep] at ep'; simpa using ep'
    subst this
    exact cells2 lp hb (x4 e2 p ep)
  f6 := h.f6
  f8 := h.f8
  f9 := h.f9
  f14 := h.f14
  f10 := fun e => by
    obtain ⟨p, e1, l1, l2, fr, c1⟩ := h.f10 e
    exact ⟨p, e1, l1, Nat.lt_of_lt_of_le l2 hb.size, fun o => (hb.frozen l2).trans (fr o), fun e2 => cells2 l2 hb (c1 e2)⟩
  f11 := fun e => by
    obtain ⟨p, e1, l1, l2, fr, c1, c2⟩ := h.f11 e
    exact ⟨p, e1, l1, Nat.lt_of_lt_of_le l2 hb.size, fun o => (hb.frozen l2).trans (fr o), fun e2 => cells4 l2 hb (c1 e2), fun e2 => cells4 l2 hb (c2 e2)⟩
  g := h.g
  dd := h.dd
  k1 := h.k1
  k2 := h.k2
theorem ptr_inj {p q : Nat} (h : (Value.pointer (some ⟨p, 0, none⟩)) = .pointer (some ⟨q, 0, none⟩)) : p = q := by simpa using h

end Go.Proofs.YtdbcdichmmcnbaaGreat

/-
  The laws' markText: the figures of a number behind an m; nothing old in memory turns.
-/
namespace Go.Proofs.YtdbcdichmmcnbaaGreat
open Go.RowKit

/-- The figures of k ahead of out. -/
def mtR (k : Nat) (out : ByteArray) : ByteArray := if _h : k = 0 then out else mtR (k / 10) (strOfNums [48 + (k : Int) % 10] ++ out)
  termination_by k
  decreasing_by omega
theorem mtR_zero (out : ByteArray) : mtR 0 out = out := by unfold mtR; rw [dif_pos rfl]
theorem mtR_step {k : Nat} (h : k ≠ 0) (out : ByteArray) : mtR k out = mtR (k / 10) (strOfNums [48 + (k : Int) % 10] ++ out) := by conv => lhs; unfold mtR; rw [dif_neg h]
def mtT (k : Nat) : ByteArray := ⟨#[109]⟩ ++ mtR k ⟨#[]⟩
theorem ret_ba9 {a b : ByteArray} (h : a = b) : Ending.returned (.string a) = .returned (.string b) := by rw [h]
theorem ba_size (a b : ByteArray) : (a ++ b).size = a.size + b.size := by simp

theorem cvt1 (w : World) (c : Int) : (convert 22 9 (.slice (some ⟨w.heap.size, 0, none⟩) 1 1)).run Tryz.prog (w.alloc (.cells #[.int .u8 c] 5)) = .ok (.string (strOfNums [c])) (w.alloc (.cells #[.int .u8 c] 5)) :=
  run_convert_bytes_arg _ 22 5 Tryz.underlying22 Tryz.underlying5 w.heap.size 0 1 1 [c] rfl (by
    intro i hi
    have : i = 0 := by omega
    subst this
    simp [go_sem]) 9 Tryz.underlying9

set_option maxHeartbeats 1000000 in
theorem markText_any (k : Nat) (hk : 0 < k) (h9 : k ≤ 90000000000) (w : World) :
    Calls Tryz.prog 114 #[.int .i64 k] w fun e w' => e = .returned (.string (mtT k)) ∧ Below w.heap.size w w' := by
  have d1 : decide ((k : Int) ≤ 0) = false := decide_eq_false (by omega)
  go_enter Tryz.func114, Tryz.ntmps114
  go_wp2_with fail
  go_loopw [0, 3] (fun t0 t3 wr => ∃ (J : Int) (m : Nat) (out : ByteArray), t0 = .int .i64 J ∧ t3 = .string out ∧ 0 ≤ J ∧ J ≤ 90000000000 ∧ J.toNat < 10 ^ m ∧ out.size + m ≤ 20 ∧ mtR k ⟨#[]⟩ = mtR J.toNat out ∧ Below w.heap.size w wr) (fun t0 _ _ => (intOf t0).toNat)
  case atStart => exact ⟨k, 19, ⟨#[]⟩, rfl, rfl, by omega, by omega, by omega, by show 0 + 19 ≤ 20; omega, rfl, Below.refl _ _⟩
  case round =>
    obtain ⟨J, m, out, rfl, rfl, hJ0, hj9, hjm, hsz, heq, hbel⟩ := hrel
    have HM := hidP (And.intro hjm hsz)
    have hsz2 : out.size ≤ 20 := by omega
    clear hjm hsz
    by_cases h0 : J = 0
    · subst h0
      have HE : Hid (mtR k ⟨#[]⟩ = out) := hidP (heq.trans (mtR_zero out))
      have HB := hidP hbel
      clear heq hbel
      go_wp2_with fail
      go_ret
      exact ⟨ret_ba9 (by unfold mtT; rw [HE.out]), HB.out⟩
    · have g1 : decide ((0 : Int) < J) = true := decide_eq_true (by omega)
      have hst := mtR_step (k := J.toNat) (by omega) out
      rw [show ((J.toNat : Nat) : Int) = J by omega] at hst
      rw [hst] at heq
      clear hst
      have HE := hidP heq
      have HB := hidP hbel
      have hcv := cvt1 wr (48 + J % 10)
      have hw8 : IntKind.u8.wrap (48 + J % 10) = 48 + J % 10 := by simp [IntKind.wrap, IntKind.bits, IntKind.signed]; omega
      have hss : (strOfNums [48 + J % 10]).size = 1 := rfl
      clear heq hbel
      have HJ := hidP (And.intro hJ0 hj9)
      go_wp2_with fail
      go_roundw
      case rel =>
        have h10 : (J / 10).toNat = J.toNat / 10 := by have := HJ.out; omega
        have hm : m ≠ 0 := by
          intro h; have h1 := HM.out.1; rw [h] at h1; have h2 := HJ.out; omega
        refine ⟨J / 10, m - 1, _, rfl, rfl, by have := HJ.out; omega, by have := HJ.out; omega, ?_, ?_, ?_, HB.out.alloc HB.out.size _⟩
        · rw [h10]
          apply Nat.div_lt_of_lt_mul
          have := HM.out.1
          rw [show m = (m - 1) + 1 by omega, Nat.pow_succ, Nat.mul_comm] at this
          exact this
        · rw [ba_size, hss]; have := HM.out.2; omega
        · rw [h10]; exact HE.out
      case measure => simp [intOf]; have := HJ.out; omega

theorem markText_int (J : Int) (h0 : 0 < J) (h9 : J ≤ 90000000000) (w : World) :
    Calls Tryz.prog 114 #[.int .i64 J] w fun e w' => e = .returned (.string (mtT J.toNat)) ∧ Below w.heap.size w w' := by
  have := markText_any J.toNat (by omega) (by omega) w
  rw [show ((J.toNat : Nat) : Int) = J by omega] at this
  exact this

end Go.Proofs.YtdbcdichmmcnbaaGreat
