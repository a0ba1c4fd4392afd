/-
  What held_holds needs, part 5.
-/
import Derived.Test.YtplocbpngikohaaGreatZH4
import Derived.Deep.RegionWith
import Derived.Deep.RegionHeld3
import Derived.Test.YtplocbpngikohaaGreatShelf
import Derived.Sort.OwnSortedInts
namespace Go.Proofs.YtplocbpngikohaaGreat
open Go.ChangeShapes Go.WideShapes Go.ChangeAt Go.RowKit Go.Joins Go.Deep

/-- How many bytes the replies have. -/
def sumS : List Ss → Nat
  | [] => 0
  | q :: t => q.t.size + sumS t
theorem sumS_app : ∀ xs ys : List Ss, sumS (xs ++ ys) = sumS xs + sumS ys
  | [], ys => by simp [sumS]
  | q :: t, ys => by simp [sumS, sumS_app t ys]; omega
theorem sumS_next {bs : List Ss} {k : Nat} {q : Ss} (h : bs[k]? = some q) : sumS (bs.take (k + 1)) = sumS (bs.take k) + q.t.size := by
  rw [List.take_add_one, h, sumS_app]; simp [sumS]
theorem sumS_le (bs : List Ss) (k : Nat) : sumS (bs.take k) ≤ sumS bs := by
  conv => rhs; rw [← List.take_append_drop k bs, sumS_app]
  omega


set_option maxHeartbeats 400000 in
theorem szSession_any (q : Ss) (l : Int) (h0 : 0 ≤ l) (h1 : l ≤ 1048576) (h9 : q.t.size ≤ 9223372036854775807) (w : World) :
    Calls Tryz.prog 61 #[.agg #[.int .i64 q.i, .int .i64 q.l, .string q.t, .int .i64 q.u], .int .i64 l] w fun e w' => e = .returned (.int .i64 (szO l q.t.size)) ∧ Below w.heap.size w w' := by
  by_cases hd : l - (q.t.size : Int) < 0
  · rw [szO_yes hd]
    go_enter Tryz.func61, Tryz.ntmps61
    go_wp2
    go_ret
    exact ⟨rfl, (Below.refl _ _).alloc (Nat.le_refl _) _⟩
  · rw [szO_no hd]
    have hd2 : decide (l - (q.t.size : Int) < 0) = false := decide_eq_false hd
    go_enter Tryz.func61, Tryz.ntmps61
    go_wp2
    go_ret
    exact ⟨rfl, (Below.refl _ _).alloc (Nat.le_refl _) _⟩

set_option maxHeartbeats 1000000 in
theorem szSessionS_any (a : Option Addr) (n cap : Nat) (bs : List Ss) (l : Int) (h0 : 0 ≤ l) (h1 : l ≤ 1048576) (w : World) (hn : n = bs.length) (hB : RowG KSs w a bs) (h9 : n ≤ 9223372036854775807) (hst : ∀ q ∈ bs, q.t.size ≤ 9223372036854775807) :
    Calls Tryz.prog 34 #[.slice a n cap, .int .i64 l] w fun e w' => e = .returned (.int .i64 (szB n (sumS bs) l)) ∧ Below w.heap.size w w' := by
  have HB := hidP hB
  have HN := hidP hn
  have HST := hidP hst
  clear hB hn hst
  by_cases hnl : l < (n : Int)
  · rw [szB_no (by omega)]
    have d1 : decide (l - (n : Int) < 0) = true := decide_eq_true (by omega)
    go_enter Tryz.func34, Tryz.ntmps34
    go_wp2
    go_ret
    exact ⟨rfl, Below.refl _ _⟩
  · have d1 : decide (l - (n : Int) < 0) = false := decide_eq_false (by omega)
    have d2 : ¬ (l - (n : Int) < 0) := by omega
    go_enter Tryz.func34, Tryz.ntmps34
    go_wp2_with fail
    go_loopw [1, 5] (fun t1 t5 wr => ∃ (k : Nat) (z : Int), k ≤ n ∧ t5 = .int .i64 k ∧ t1 = .int .i64 z ∧ z = l - n - sumS (bs.take k) ∧ 0 ≤ z ∧ Below w.heap.size w wr) (fun _ t5 _ => n - (intOf t5).toNat)
    case atStart => exact ⟨0, l - n, Nat.zero_le _, rfl, rfl, by simp [sumS], by omega, Below.refl _ _⟩
    case round =>
      obtain ⟨k, z, hk, rfl, rfl, hz, hz0, hbel⟩ := hrel
      by_cases hlt : k < n
      · obtain ⟨p, o, q, rfl, hp, hq, c0, c1, c2, c3⟩ := rowSs HB.out k (by rw [← HN.out]; exact hlt)
        have d0 := (hbel.cell hp).trans c0
        have d1 := (hbel.cell hp).trans c1
        have d2 := (hbel.cell hp).trans c2
        have d3 := (hbel.cell hp).trans c3
        have HBel := hidP hbel
        have HNx := hidP (sumS_next hq)
        have HLe := hidP (sumS_le bs (k + 1))
        have hz1 : z ≤ 1048576 := by omega
        have HZ := hidP hz
        have HS := hidP (szSession_any q z hz0 hz1 (HST.out q (List.mem_of_getElem? hq)))
        clear c0 c1 c2 c3 hq hbel hz
        by_cases hd : z - (q.t.size : Int) < 0
        · rw [szO_yes hd] at HS
          have HF : Hid (¬ ((n : Int) + (sumS bs : Int) ≤ l)) := hidP (by have := HZ.out; have := HNx.out; have := HLe.out; omega)
          go_wp2_with fail
          refine (HS.out _).mono ?_
          rintro e w2 ⟨rfl, hb2⟩
          have HB2 := hidP (HBel.out.trans (hb2.mono HBel.out.size))
          clear hb2 HBel d0 d1 d2 d3
          go_wp2_with fail
          go_ret
          exact ⟨ret_i (szB_no (by have := HF.out; omega)).symm, HB2.out⟩
        · rw [szO_no hd] at HS
          have hd2 : decide (z - (q.t.size : Int) < 0) = false := decide_eq_false hd
          go_wp2_with fail
          refine (HS.out _).mono ?_
          rintro e w2 ⟨rfl, hb2⟩
          have HB2 := hidP (HBel.out.trans (hb2.mono HBel.out.size))
          clear hb2 HBel d0 d1 d2 d3
          go_wp2_with fail
          go_roundw
          case rel => exact ⟨k + 1, z - (q.t.size : Int), by omega, by go_num, rfl, by have := HZ.out; have := HNx.out; omega, by omega, HB2.out⟩
          case measure => simp [intOf]; omega
      · have hkn : k = n := by omega
        have HF : Hid ((n : Int) + (sumS bs : Int) ≤ l ∧ z = l - n - sumS bs) := by
          rw [List.take_of_length_le (by have := HN.out; omega)] at hz
          exact hidP ⟨by omega, hz⟩
        have HBel := hidP hbel
        clear hbel hz
        go_wp2_with fail
        go_ret
        exact ⟨ret_i (by rw [szB_yes HF.out.1, ← HF.out.2]), HBel.out⟩


/-- How much of a law's room a desk takes. -/
def totD (ls : List Ss) : Int := ls.length + sumS ls
theorem box2D (w : World) (t : TypeId) (u v : Value) : (w.alloc (.cells #[u, v] t)).cell? ⟨w.heap.size, 0, none⟩ = some u ∧ (w.alloc (.cells #[u, v] t)).cell? ⟨w.heap.size, 1, none⟩ = some v := ⟨by simp [go_sem], by simp [go_sem]⟩

set_option maxHeartbeats 1000000 in
theorem szDesk_at (a : Option Addr) (n c : Nat) (N : Int) (ls : List Ss) (l : Int) (h0 : 0 ≤ l) (h1 : l ≤ 1048576) (w : World) (hn : n = ls.length) (hP : RowG KSs w a ls) (h9 : n ≤ 9223372036854775807) (hst : ∀ q ∈ ls, q.t.size ≤ 9223372036854775807) :
    Calls Tryz.prog 15 #[.agg #[.slice a n c, .int .i64 N], .int .i64 l] w fun e w' => e = .returned (.int .i64 (szB ls.length (sumS ls) l)) ∧ Below w.heap.size w w' := by
  rw [← hn]
  have HS := hidP (fun W h => szSessionS_any a n c ls l h0 h1 W hn (hP.later h) h9 hst)
  clear hP hn hst
  by_cases ht : (n : Int) + (sumS ls : Int) ≤ l
  · rw [szB_yes ht] at HS
    rw [szB_yes ht]
    have hz2 : decide (l - (n : Int) - (sumS ls : Int) < 0) = false := decide_eq_false (by omega)
    generalize he : (l - (n : Int) - (sumS ls : Int)) = z at *
    have hz3 : ¬ z < 0 := by omega
    have HE := hidP he
    clear he
    go_enter Tryz.func15, Tryz.ntmps15
    go_wp2_with fail
    refine (HS.out _ (alloc_below w _)).mono ?_
    rintro e w2 ⟨rfl, hb2⟩
    have HB2 := hidP hb2
    clear hb2
    go_wp2_with fail
    go_ret
    exact ⟨ret_i (by have := HE.out; omega), (alloc_below w _).trans (HB2.out.mono (alloc_below w _).size)⟩
  · rw [szB_no ht] at HS
    rw [szB_no ht]
    go_enter Tryz.func15, Tryz.ntmps15
    go_wp2_with fail
    refine (HS.out _ (alloc_below w _)).mono ?_
    rintro e w2 ⟨rfl, hb2⟩
    have HB2 := hidP hb2
    clear hb2
    go_wp2_with fail
    go_ret
    exact ⟨rfl, (alloc_below w _).trans (HB2.out.mono (alloc_below w _).size)⟩

set_option maxHeartbeats 1000000 in
theorem toDesk_any (a : Option Addr) (n c : Nat) (N : Int) (ls : List Ss) (w : World) (hn : n = ls.length) (hP : RowG KSs w a ls) (hl : n ≤ 1048576) :
    Calls Tryz.prog 22 #[.agg #[.slice a n c, .int .i64 N]] w fun e w' => ∃ g, e = .returned (.agg #[.slice (some ⟨g, 0, none⟩) n n, .int .i64 N]) ∧ OwnG KSs 96 w' w.heap.size (.slice (some ⟨g, 0, none⟩) n n) ls ∧ Below w.heap.size w w' := by
  have HTP := hidP (fun W h => toSessionS_any a n c ls W hn (hP.later h) hl)
  clear hP hn
  go_enter Tryz.func22, Tryz.ntmps22
  go_wp2_with fail
  refine (HTP.out _ ?_).mono ?_
  · repeat (first | with_reducible exact Below.refl _ _ | (with_reducible refine Below.drew ?_) | (with_reducible refine Below.alloc ?_ ?_ _; rotate_left; (focus (first | omega | (simp; omega) | (simp; done)))) | (with_reducible refine Below.setCell ?_ ?_ _; rotate_left; (focus (first | omega | (simp; omega) | (simp; done)))))
  rintro e w1 ⟨g, rfl, og, hb1⟩
  have hz1 := hb1.size
  try simp at hz1
  have hgl := OwnG.lt og g rfl
  try simp at hgl
  have f10 : w.heap.size < w1.heap.size := by omega
  have f11 : w.heap.size + 1 < w1.heap.size := by omega
  have f12 : w.heap.size + 2 < w1.heap.size := by omega
  refine olds_k (w.heap.size + 3) hb1 ?_ ?_
  · first | omega | (simp; omega) | (simp; done)
  intro hc1 hf1
  have OG := hidP og
  clear og
  go_wp2_with fail
  refine bodyPost_ret (v := .agg #[.slice (some ⟨g, 0, none⟩) n n, .int .i64 N]) (by simp [results, Tryz.results22, go_sem, hc1]) rfl ⟨g, rfl, ?_, ?_⟩
  · have ne : ∀ x : Nat, x < w.heap.size + 3 → ∀ k, (Value.slice (some ⟨g, 0, none⟩) n n).ownBlock = some k → some x ≠ some k := fun x hx k hk e => by simp [Value.ownBlock] at hk e; omega
    refine OwnG.mono (B := w.heap.size + 3) ?_ (by omega)
    iterate 4 (with_reducible refine OwnG.grown ?_ (grown_cellG _ _ _ _) ?_; rotate_left; (focus (exact ne _ (by omega))))
    with_reducible exact OG.out.mono (by first | (simp; done) | (simp; omega))
  · repeat (first | with_reducible exact Below.refl _ _ | (with_reducible refine Below.drew ?_) | (with_reducible refine Below.alloc ?_ ?_ _; rotate_left; (focus (first | omega | (simp; omega) | (simp; done)))) | (with_reducible refine Below.setCell ?_ ?_ _; rotate_left; (focus (first | omega | (simp; omega) | (simp; done)))) | (with_reducible refine Below.trans ?_ (hb1.mono ?_); rotate_left; (focus (first | omega | (simp; omega) | (simp; done)))))

set_option maxHeartbeats 1000000 in
theorem eqDesk_same (a a' : Option Addr) (n c c' : Nat) (N : Int) (ls : List Ss) (w : World) (hn : n = ls.length) (hP : RowG KSs w a ls) (hP' : RowG KSs w a' ls) (hl : n ≤ 9000000000) :
    Calls Tryz.prog 29 #[.agg #[.slice a n c, .int .i64 N], .agg #[.slice a' n c', .int .i64 N]] w fun e w' => e = .returned (.bool true) ∧ Below w.heap.size w w' := by
  have HTP := hidP (fun W h => eqSessionS_same a a' n c c' ls W hn (hP.later h) (hP'.later h) hl)
  clear hP hP' hn
  go_enter Tryz.func29, Tryz.ntmps29
  go_wp2_with fail
  refine (HTP.out _ ?_).mono ?_
  · repeat (first | with_reducible exact Below.refl _ _ | (with_reducible refine Below.drew ?_) | (with_reducible refine Below.alloc ?_ ?_ _; rotate_left; (focus (first | omega | (simp; omega) | (simp; done)))) | (with_reducible refine Below.setCell ?_ ?_ _; rotate_left; (focus (first | omega | (simp; omega) | (simp; done)))))
  rintro e w1 ⟨rfl, hb1⟩
  have hz1 := hb1.size
  try simp at hz1
  have f10 : w.heap.size < w1.heap.size := by omega
  have f11 : w.heap.size + 1 < w1.heap.size := by omega
  refine olds_k (w.heap.size + 2) hb1 ?_ ?_
  · first | omega | (simp; omega) | (simp; done)
  intro hc1 hf1
  go_wp2_with fail
  go_ret
  refine ⟨rfl, ?_⟩
  repeat (first | with_reducible exact Below.refl _ _ | (with_reducible refine Below.drew ?_) | (with_reducible refine Below.alloc ?_ ?_ _; rotate_left; (focus (first | omega | (simp; omega) | (simp; done)))) | (with_reducible refine Below.setCell ?_ ?_ _; rotate_left; (focus (first | omega | (simp; omega) | (simp; done)))) | (with_reducible refine Below.trans ?_ (hb1.mono ?_); rotate_left; (focus (first | omega | (simp; omega) | (simp; done)))))

end Go.Proofs.YtplocbpngikohaaGreat
namespace Go.Proofs.YtplocbpngikohaaGreat
open Go.RowKit

def tmB (u : Int) : Bool := decide (0 ≤ u) && decide (u ≤ 1000000000)
def emB (t : ByteArray) : Bool := t.toList.isEmpty
/-- A session but for its Id. -/
def okSs (q : Ss) : Bool := ((decide (0 ≤ q.l) && decide (q.l ≤ 1000000)) && (decide ((q.t.size : Int) ≤ 200) && (decide (0 < q.l) || emB q.t))) && tmB q.u
/-- The sessions of a desk whose Next is N, behind one whose Id is p. -/
def sesF (N : Int) (p : Int) : List Ss → Bool
  | [] => true
  | q :: t => ((decide (p < q.i) && decide (q.i < N)) && okSs q) && sesF N q.i t
/-- DeskOk. -/
def dkB (ls : List Ss) (N : Int) : Bool := (decide ((ls.length : Int) ≤ 12) && (decide (1 ≤ N) && decide (N ≤ 1000000))) && sesF N 0 ls
/-- The Id ahead of place k, 0 ahead of the first. -/
def prvS (ls : List Ss) (k : Nat) : Int := match k with
  | 0 => 0
  | k + 1 => match ls[k]? with | some q => q.i | none => 0
theorem prvS_next {ls : List Ss} {k : Nat} {q : Ss} (h : ls[k]? = some q) : prvS ls (k + 1) = q.i := by simp [prvS, h]
theorem drop_at7 {α : Type} {ls : List α} {k : Nat} {q : α} (h : ls[k]? = some q) : ls.drop k = q :: ls.drop (k + 1) := by
  obtain ⟨hk, rfl⟩ := List.getElem?_eq_some_iff.1 h
  exact List.drop_eq_getElem_cons hk
theorem ret_b7 {a b : Bool} (h : a = b) : Ending.returned (.bool a) = .returned (.bool b) := by rw [h]

end Go.Proofs.YtplocbpngikohaaGreat
namespace Go.Proofs.YtplocbpngikohaaGreat
open Go.RowKit

theorem had_in {p : Pf} {s : Bool} {H L : BitVec 64} (h : hadB p.s p.H p.L p.b s H L = true) : s = p.s ∧ p.ad ≤ adrN H L ∧ adrN H L < p.ad + 2 ^ p.sz := by
  unfold hadB at h
  rw [Bool.and_eq_true, Bool.and_eq_true] at h
  obtain ⟨hp, _, hh⟩ := h
  obtain ⟨x, hx, rfl⟩ := Sp.of_pok (p := p) hp
  have e : ((wd x.s : Int) - ((wd x.s : Int) - x.n)).toNat = x.n := by omega
  have e1 : (Sp.pre x).sz = x.n := e
  have hh2 : hasB x.s x.H x.L ((wd x.s : Int) - ((wd x.s : Int) - x.n)).toNat s H L = true := hh
  rw [e] at hh2
  rw [e1]
  refine (one_in (t := ⟨s, H, L, 0⟩) (x := x) rfl hx).1 ?_
  unfold wB withB
  rw [decide_eq_true (Nat.zero_le _), Bool.true_and]
  exact hh2
theorem fol_had {p q : Pf} (h : fol p q) {s : Bool} {H L : BitVec 64} (h1 : hadB p.s p.H p.L p.b s H L = true) (h2 : hadB q.s q.H q.L q.b s H L = true) : False := by
  obtain ⟨a1, a2, a3⟩ := had_in h1
  obtain ⟨b1, b2, b3⟩ := had_in h2
  rcases h with ⟨c1, c2⟩ | ⟨c1, c2⟩
  · rw [← a1] at c1; rw [← b1, c1] at c2; cases c2
  · omega
theorem blocks_pw {ps : List Pl} : ∀ (bs : List Bk) (r : Option Pf), (∀ p, r = some p → p.pk = true) → blocksI ps r bs = true → bs.Pairwise (fun q u => fol q.p u.p) ∧ ∀ p, r = some p → ∀ q ∈ bs, fol p q.p
  | [], _, _, _ => ⟨List.Pairwise.nil, fun _ _ _ h => by cases h⟩
  | q :: t, r, hr, h => by
      unfold blocksI at h
      rw [Bool.and_eq_true, Bool.and_eq_true, Bool.and_eq_true] at h
      obtain ⟨⟨⟨_, hc⟩, hf⟩, ht⟩ := h
      have hq := carB_pk hc
      obtain ⟨h1, h2⟩ := blocks_pw t (some q.p) (fun p hp => by cases hp; exact hq) ht
      have h3 := h2 q.p rfl
      refine ⟨List.pairwise_cons.2 ⟨h3, h1⟩, fun p hp u hu => ?_⟩
      subst hp
      have hf' : folB p q.p = true := hf
      unfold folB at hf'
      rw [Bool.and_eq_true, Bool.not_eq_true'] at hf'
      have hpq := fol_of (hr p rfl) hq (of_decide_eq_true hf'.1) hf'.2
      rcases List.mem_cons.1 hu with rfl | hu
      · exact hpq
      · exact fol_trans hpq (h3 u hu)
theorem txt_ne {a b : ByteArray} (h : a ≠ b) : (a.toList == b.toList) = false := by
  rw [ByteArray.toList_eq, ByteArray.toList_eq]
  obtain ⟨⟨x⟩⟩ := a
  obtain ⟨⟨y⟩⟩ := b
  have hn : x ≠ y := fun e => h (by rw [e])
  simpa using hn
theorem txt_eq (a : ByteArray) : (a.toList == a.toList) = true := by simp
/-- Whether a block of this owner's has the address. -/
def lieF (t : ByteArray) (s : Bool) (H L : BitVec 64) (q : Bk) : Bool := decide (q.t = t) && hadB q.p.s q.p.H q.p.L q.p.b s H L
def lieB (bs : List Bk) (l : Ls) : Bool := bs.any (lieF l.t l.a.s l.a.H l.a.L)
/-- Whether the first block that has the address is this owner's. -/
def lieS (bs : List Bk) (l : Ls) : Bool := (bkF l.a.s l.a.H l.a.L bs).2 && decide ((bkF l.a.s l.a.H l.a.L bs).1.t = l.t)
theorem lie_same : ∀ (bs : List Bk) (l : Ls), bs.Pairwise (fun q u => fol q.p u.p) → lieB bs l = lieS bs l
  | [], l, _ => rfl
  | q :: t, l, h => by
      have hp := List.pairwise_cons.1 h
      unfold lieB lieS bkF
      rw [List.any_cons]
      by_cases hh : hadB q.p.s q.p.H q.p.L q.p.b l.a.s l.a.H l.a.L = true
      · rw [if_pos hh]
        have hn : t.any (lieF l.t l.a.s l.a.H l.a.L) = false := by
          rw [List.any_eq_false]
          intro u hu hc
          unfold lieF at hc
          rw [Bool.and_eq_true] at hc
          exact fol_had (hp.1 u hu) hh hc.2
        rw [hn, Bool.or_false, Bool.true_and]
        unfold lieF
        rw [hh, Bool.and_true]
      · rw [if_neg hh]
        have hf : lieF l.t l.a.s l.a.H l.a.L q = false := by
          unfold lieF
          rw [Bool.not_eq_true] at hh
          rw [hh, Bool.and_false]
        rw [hf, Bool.false_or]
        exact lie_same t l hp.2
theorem plan_pw {ps : List Pl} {bs : List Bk} (h : planB ps bs = true) : bs.Pairwise (fun q u => fol q.p u.p) := by
  unfold planB at h
  rw [Bool.and_eq_true] at h
  have h2 := h.2
  rw [Bool.and_eq_true] at h2
  exact (blocks_pw bs none (fun _ h => by cases h) h2.2).1
/-- What both StateOk answer. -/
def stB (ps : List Pl) (bs : List Bk) (ls : List Ls) (T N : Int) (ss : List Ss) (X C : Int) : Bool := (planB ps bs && (bkB ls T N && (dkB ss X && decide (0 ≤ C)))) && ls.all (lieB bs)

end Go.Proofs.YtplocbpngikohaaGreat
namespace Go.Proofs.YtplocbpngikohaaGreat
open Go.RowKit

set_option maxHeartbeats 1000000 in
theorem idx_lie (f : Bk → Bool) (ob cb : Nat) (a : Option Addr) (n cap : Nat) (ps : List Bk) (w : World) (hn : n = ps.length) (hB : RowG KBk w a ps) (hl : n ≤ 9000000000)
    (hf : ∀ (x : Bk) (W : World), Below w.heap.size w W → Calls Tryz.prog 81 #[.agg #[.bool x.p.s, .int .i64 x.p.H.toInt, .int .i64 x.p.L.toInt, .int .i64 x.p.b, .string x.t], .pointer (some ⟨ob, 0, none⟩), .pointer (some ⟨cb, 0, none⟩)] W fun e w' => e = .returned (.bool (f x)) ∧ Below W.heap.size W w') :
    Calls Tryz.prog 103 #[.slice a n cap, .func (.func 81) #[] #[.pointer (some ⟨ob, 0, none⟩), .pointer (some ⟨cb, 0, none⟩)]] w fun e w' => e = .returned (.int .i64 (ixF f 0 ps)) ∧ Below w.heap.size w w' := by
  have HB := hidP hB
  have HN := hidP hn
  have HF := hidP hf
  clear hB hn hf
  go_enter Tryz.func103, Tryz.ntmps103
  go_wp2_with fail
  go_loopw [5, 8] (fun _ t8 wr => ∃ k : Nat, k ≤ n ∧ t8 = .int .i64 k ∧ ixF f 0 ps = ixF f k (ps.drop k) ∧ Below w.heap.size w wr) (fun _ t8 _ => n - (intOf t8).toNat)
  case atStart => exact ⟨0, Nat.zero_le _, rfl, rfl, Below.refl _ _⟩
  case round =>
    obtain ⟨k, hk, rfl, hix, hbel⟩ := hrel
    by_cases hlt : k < n
    · obtain ⟨p, o, q, rfl, hp, hq, c0, c1, c2, c3, c4⟩ := rowBk HB.out k (by rw [← HN.out]; exact hlt)
      have d0 := (hbel.cell hp).trans c0
      have d1 := (hbel.cell hp).trans c1
      have d2 := (hbel.cell hp).trans c2
      have d3 := (hbel.cell hp).trans c3
      have d4 := (hbel.cell hp).trans c4
      have HBel := hidP hbel
      have hst := ixF_step f ps k q hq
      rw [hst] at hix
      have HX := hidP hix
      have HFq := hidP (HF.out q _ hbel)
      clear hbel c0 c1 c2 c3 c4 hq hix hst
      cases hfq : f q
      · rw [hfq] at HX HFq
        go_wp2_with (first | (go_at_call 81; refine (HFq.out).mono ?_; rintro e w2 ⟨rfl, hb2⟩))
        have HB2 := hidP (HBel.out.trans (hb2.mono HBel.out.size))
        clear hb2 HBel d0 d1 d2 d3 d4
        go_wp2_with fail
        go_roundw
        case rel => exact ⟨k + 1, by omega, by go_num, by rw [HX.out]; simp, HB2.out⟩
        case measure => simp [intOf]; omega
      · rw [hfq] at HX HFq
        go_wp2_with (first | (go_at_call 81; refine (HFq.out).mono ?_; rintro e w2 ⟨rfl, hb2⟩))
        have HB2 := hidP (HBel.out.trans (hb2.mono HBel.out.size))
        clear hb2 HBel d0 d1 d2 d3 d4
        go_wp2_with fail
        go_ret
        exact ⟨ret_i (by rw [HX.out]; simp), HB2.out⟩
    · have HX : Hid (ixF f 0 ps = -1) := by
        rw [List.drop_of_length_le (by have := HN.out; omega)] at hix
        exact hidP hix
      have HBel := hidP hbel
      clear hbel hix
      go_wp2_with fail
      go_ret
      exact ⟨ret_i HX.out.symm, HBel.out⟩

set_option maxHeartbeats 1000000 in
theorem cont_lie (f : Bk → Bool) (ob cb : Nat) (a : Option Addr) (n cap : Nat) (ps : List Bk) (w : World) (hn : n = ps.length) (hB : RowG KBk w a ps) (hl : n ≤ 9000000000)
    (hf : ∀ (x : Bk) (W : World), Below w.heap.size w W → Calls Tryz.prog 81 #[.agg #[.bool x.p.s, .int .i64 x.p.H.toInt, .int .i64 x.p.L.toInt, .int .i64 x.p.b, .string x.t], .pointer (some ⟨ob, 0, none⟩), .pointer (some ⟨cb, 0, none⟩)] W fun e w' => e = .returned (.bool (f x)) ∧ Below W.heap.size W w') :
    Calls Tryz.prog 80 #[.slice a n cap, .func (.func 81) #[] #[.pointer (some ⟨ob, 0, none⟩), .pointer (some ⟨cb, 0, none⟩)]] w fun e w' => e = .returned (.bool (ps.any f)) ∧ Below w.heap.size w w' := by
  have H := hidP (idx_lie f ob cb a n cap ps w hn hB hl hf)
  have HA := hidP (ixF_any f ps 0 (by omega))
  clear hn hB hl hf
  go_enter Tryz.func80, Tryz.ntmps80
  go_wp2_with fail
  refine (H.out).mono ?_
  rintro e w2 ⟨rfl, hb2⟩
  go_wp2_with fail
  go_ret
  exact ⟨ret_b HA.out, hb2⟩


set_option maxHeartbeats 1000000 in
theorem lie1_any (t : ByteArray) (s : Bool) (H L : BitVec 64) (q : Bk) (ob cb : Nat) (w : World) (hob : ob < w.heap.size) (hcb : cb < w.heap.size) (y0 : w.cell? ⟨ob, 0, none⟩ = some (.string t)) (x0 : w.cell? ⟨cb, 0, none⟩ = some (.bool s)) (x1 : w.cell? ⟨cb, 1, none⟩ = some (.int .i64 H.toInt)) (x2 : w.cell? ⟨cb, 2, none⟩ = some (.int .i64 L.toInt)) :
    Calls Tryz.prog 81 #[.agg #[.bool q.p.s, .int .i64 q.p.H.toInt, .int .i64 q.p.L.toInt, .int .i64 q.p.b, .string q.t], .pointer (some ⟨ob, 0, none⟩), .pointer (some ⟨cb, 0, none⟩)] w fun e w' => e = .returned (.bool (lieF t s H L q)) ∧ Below w.heap.size w w' := by
  have HW := hidP (iHasAddr_any q.p.s q.p.H q.p.L q.p.b s H L)
  have hne : cb ≠ w.heap.size := by omega
  have hno : ob ≠ w.heap.size := by omega
  unfold lieF
  by_cases h1 : q.t = t
  · rw [decide_eq_true h1, Bool.true_and]
    subst h1
    generalize hadB q.p.s q.p.H q.p.L q.p.b s H L = r at *
    go_enter Tryz.func81, Tryz.ntmps81
    go_wp2_with fail
    refine (HW.out _).mono ?_
    rintro e w1 ⟨rfl, hb1⟩
    go_wp2_with fail
    go_ret
    refine ⟨by cases r <;> rfl, ?_⟩
    repeat (first | with_reducible exact Below.refl _ _ | (with_reducible refine Below.drew ?_) | (with_reducible refine Below.alloc ?_ ?_ _; rotate_left; (focus (first | omega | (simp; omega) | (simp; done)))) | (with_reducible refine Below.setCell ?_ ?_ _; rotate_left; (focus (first | omega | (simp; omega) | (simp; done)))) | (with_reducible refine Below.trans ?_ (hb1.mono ?_); rotate_left; (focus (first | omega | (simp; omega) | (simp; done)))))
  · rw [decide_eq_false h1, Bool.false_and]
    have h2 : decide (q.t = t) = false := decide_eq_false h1
    have h3 := txt_ne h1
    go_enter Tryz.func81, Tryz.ntmps81
    go_wp2_with fail
    go_ret
    exact ⟨rfl, (Below.refl _ _).alloc (Nat.le_refl _) _⟩

theorem box1T (w : World) (t : TypeId) (u : Value) : (w.alloc (.cells #[u] t)).cell? ⟨w.heap.size, 0, none⟩ = some u := by simp [go_sem]

set_option maxHeartbeats 2000000 in
theorem liesWith_any (sb : Nat) (ab : Option Addr) (nb cb : Nat) (bs : List Bk) (l : Ls) (w : World) (hn : nb = bs.length) (hB : RowG KBk w ab bs) (hl : nb ≤ 9000000000) (hs : sb < w.heap.size) (s1 : w.cell? ⟨sb, 1, none⟩ = some (.slice ab nb cb)) :
    Calls Tryz.prog 54 #[.pointer (some ⟨sb, 0, none⟩), .agg #[.bool l.a.s, .int .i64 l.a.H.toInt, .int .i64 l.a.L.toInt], .string l.t] w fun e w' => e = .returned (.bool (lieB bs l)) ∧ Below w.heap.size w w' := by
  unfold lieB
  have e1 : sb ≠ w.heap.size := by omega
  have e2 : sb ≠ w.heap.size + 1 := by omega
  have x1 : (w.alloc (.cells #[.bool l.a.s, .int .i64 l.a.H.toInt, .int .i64 l.a.L.toInt] 55)).cell? ⟨w.heap.size, 0, none⟩ = some (.bool l.a.s) ∧ (w.alloc (.cells #[.bool l.a.s, .int .i64 l.a.H.toInt, .int .i64 l.a.L.toInt] 55)).cell? ⟨w.heap.size, 1, none⟩ = some (.int .i64 l.a.H.toInt) ∧ (w.alloc (.cells #[.bool l.a.s, .int .i64 l.a.H.toInt, .int .i64 l.a.L.toInt] 55)).cell? ⟨w.heap.size, 2, none⟩ = some (.int .i64 l.a.L.toInt) := ⟨by simp [go_sem], by simp [go_sem], by simp [go_sem]⟩
  have b1 := alloc_below w (.cells #[.bool l.a.s, .int .i64 l.a.H.toInt, .int .i64 l.a.L.toInt] 55)
  have l1 := alloc_lt w (.cells #[.bool l.a.s, .int .i64 l.a.H.toInt, .int .i64 l.a.L.toInt] 55)
  have z1 : (w.alloc (.cells #[.bool l.a.s, .int .i64 l.a.H.toInt, .int .i64 l.a.L.toInt] 55)).heap.size = w.heap.size + 1 := by simp
  have b2 := alloc_below (w.alloc (.cells #[.bool l.a.s, .int .i64 l.a.H.toInt, .int .i64 l.a.L.toInt] 55)) (.cells #[.string l.t] 9)
  have l2 := alloc_lt (w.alloc (.cells #[.bool l.a.s, .int .i64 l.a.H.toInt, .int .i64 l.a.L.toInt] 55)) (.cells #[.string l.t] 9)
  have y0 := box1T (w.alloc (.cells #[.bool l.a.s, .int .i64 l.a.H.toInt, .int .i64 l.a.L.toInt] 55)) 9 (.string l.t)
  rw [z1] at l2 y0
  have HC : Hid (Calls Tryz.prog 80 #[.slice ab nb cb, .func (.func 81) #[] #[.pointer (some ⟨w.heap.size + 1, 0, none⟩), .pointer (some ⟨w.heap.size, 0, none⟩)]] ((w.alloc (.cells #[.bool l.a.s, .int .i64 l.a.H.toInt, .int .i64 l.a.L.toInt] 55)).alloc (.cells #[.string l.t] 9)) fun e w' => e = .returned (.bool (bs.any (lieF l.t l.a.s l.a.H l.a.L))) ∧ Below ((w.alloc (.cells #[.bool l.a.s, .int .i64 l.a.H.toInt, .int .i64 l.a.L.toInt] 55)).alloc (.cells #[.string l.t] 9)).heap.size ((w.alloc (.cells #[.bool l.a.s, .int .i64 l.a.H.toInt, .int .i64 l.a.L.toInt] 55)).alloc (.cells #[.string l.t] 9)) w') := by
    refine hidP (cont_lie (lieF l.t l.a.s l.a.H l.a.L) (w.heap.size + 1) w.heap.size ab nb cb bs _ hn ((hB.later b1).later b2) hl (fun q W hW => ?_))
    have q1 := Nat.lt_of_lt_of_le l2 hW.size
    have l3 : w.heap.size < ((w.alloc (.cells #[.bool l.a.s, .int .i64 l.a.H.toInt, .int .i64 l.a.L.toInt] 55)).alloc (.cells #[.string l.t] 9)).heap.size := Nat.lt_of_lt_of_le l1 b2.size
    exact lie1_any l.t l.a.s l.a.H l.a.L q (w.heap.size + 1) w.heap.size W q1 (Nat.lt_of_lt_of_le l3 hW.size) ((hW.cell l2).trans y0) ((hW.cell l3).trans ((b2.cell l1).trans x1.1)) ((hW.cell l3).trans ((b2.cell l1).trans x1.2.1)) ((hW.cell l3).trans ((b2.cell l1).trans x1.2.2))
  have HB2 := hidP (b1.trans (b2.mono b1.size))
  clear x1 b1 l1 z1 b2 l2 y0 hB hn
  go_enter Tryz.func54, Tryz.ntmps54
  go_wp2_with fail
  refine (HC.out).mono ?_
  rintro e w2 ⟨rfl, hb2⟩
  have HE := hidP (HB2.out.trans (hb2.mono HB2.out.size))
  clear hb2 HB2 HC
  go_wp2_with fail
  go_ret
  exact ⟨rfl, HE.out⟩

theorem all_at (ls : List Ls) (f : Ls → Bool) (k : Nat) (q : Ls) (h : ls[k]? = some q) : (ls.drop k).all f = (f q && (ls.drop (k + 1)).all f) := by
  have hk : k < ls.length := by
    rcases Nat.lt_or_ge k ls.length with h' | h'
    · exact h'
    · rw [List.getElem?_eq_none h'] at h; cases h
  rw [List.drop_eq_getElem_cons hk]
  rw [List.getElem?_eq_getElem hk] at h
  cases h; rfl

set_option maxRecDepth 10000 in
set_option maxHeartbeats 2000000 in
theorem leasesLie_any (sb : Nat) (ab : Option Addr) (nb cb : Nat) (bs : List Bk) (a : Option Addr) (n c : Nat) (ls : List Ls) (w : World) (hnb : nb = bs.length) (hK : RowG KBk w ab bs) (hlb : nb ≤ 9000000000) (hn : n = ls.length) (hB : RowG KLs w a ls) (hl : n ≤ 9000000000) (hs : sb < w.heap.size) (s1 : w.cell? ⟨sb, 1, none⟩ = some (.slice ab nb cb)) (s2 : w.cell? ⟨sb, 2, none⟩ = some (.slice a n c)) :
    Calls Tryz.prog 26 #[.pointer (some ⟨sb, 0, none⟩)] w fun e w' => e = .returned (.bool (ls.all (lieB bs))) ∧ Below w.heap.size w w' := by
  have HR := hidP hB
  have HK := hidP hK
  have HN := hidP hn
  have HNB := hidP hnb
  have HS1 := hidP s1
  clear hB hK hn hnb s1
  go_enter Tryz.func26, Tryz.ntmps26
  go_wp2_with fail
  go_loopw [4, 11] (fun _ t11 wr => ∃ k : Nat, k ≤ n ∧ t11 = .int .i64 k ∧ ls.all (lieB bs) = (ls.drop k).all (lieB bs) ∧ Below w.heap.size w wr) (fun _ t11 _ => n - (intOf t11).toNat)
  case atStart => exact ⟨0, Nat.zero_le _, rfl, rfl, Below.refl _ _⟩
  case round =>
    obtain ⟨k, hk, rfl, hpo, hbel⟩ := hrel
    by_cases hlt : k < n
    · obtain ⟨p, o, q, rfl, hp, hq, c0, c1, c2, c3, c4, c5⟩ := rowLs HR.out k (by rw [← HN.out]; exact hlt)
      have d0 := (hbel.cell hp).trans c0
      have d1 := (hbel.cell hp).trans c1
      have d2 := (hbel.cell hp).trans c2
      have d3 := (hbel.cell hp).trans c3
      have d4 := (hbel.cell hp).trans c4
      have d5 := (hbel.cell hp).trans c5
      rw [all_at ls _ k q hq] at hpo
      have HPo := hidP hpo
      have HBel := hidP hbel
      have xB := alloc_below wr (.cells #[.bool q.a.s, .int .i64 q.a.H.toInt, .int .i64 q.a.L.toInt, .string q.t, .int .i64 q.k, .int .i64 q.u] 71)
      have HXB := hidP (hbel.trans (xB.mono hbel.size))
      have HL := hidP (liesWith_any sb ab nb cb bs q (wr.alloc (.cells #[.bool q.a.s, .int .i64 q.a.H.toInt, .int .i64 q.a.L.toInt, .string q.t, .int .i64 q.k, .int .i64 q.u] 71)) HNB.out ((HK.out.later hbel).later xB) hlb (Nat.lt_of_lt_of_le hs HXB.out.size) ((HXB.out.cell hs).trans HS1.out))
      clear c0 c1 c2 c3 c4 c5 hq hpo hbel xB s2
      cases hf : lieB bs q
      · rw [hf] at HL HPo
        have HF : Hid (ls.all (lieB bs) = false) := hidP (by rw [HPo.out]; rfl)
        clear HPo
        go_wp2_with fail
        refine (HL.out).mono ?_
        rintro e w2 ⟨rfl, hb2⟩
        have HE := hidP (HXB.out.trans (hb2.mono HXB.out.size))
        clear hb2 HXB HBel d0 d1 d2 d3 d4 d5 HL
        go_wp2_with fail
        go_ret
        exact ⟨ret_b HF.out.symm, HE.out⟩
      · rw [hf, Bool.true_and] at HPo
        rw [hf] at HL
        go_wp2_with fail
        refine (HL.out).mono ?_
        rintro e w2 ⟨rfl, hb2⟩
        have HE := hidP (HXB.out.trans (hb2.mono HXB.out.size))
        clear hb2 HXB HBel d0 d1 d2 d3 d4 d5 HL
        go_wp2_with fail
        go_roundw
        case rel => exact ⟨k + 1, by omega, by go_num, HPo.out, HE.out⟩
        case measure => simp [intOf]; omega
    · have HX : Hid (ls.all (lieB bs) = true) := by
        rw [List.drop_of_length_le (by have := HN.out; omega)] at hpo
        exact hidP hpo
      have HBel := hidP hbel
      clear hbel hpo
      go_wp2_with fail
      go_ret
      exact ⟨ret_b HX.out.symm, HBel.out⟩

end Go.Proofs.YtplocbpngikohaaGreat
namespace Go.Proofs.YtplocbpngikohaaGreat
open Go.ChangeShapes Go.WideShapes Go.ChangeAt Go.RowKit Go.Joins Go.Deep

theorem cell_set1 {w : World} {b o x o' : Nat} {u v : Value} (h : w.cell? ⟨b, o, none⟩ = some u) (hne : b ≠ x) : (w.setCell ⟨x, o', none⟩ v).cell? ⟨b, o, none⟩ = some u := by
  rw [World.cell?_of_block (w := w) ((grown_cellG w x o' v).block b (World.block_lt_of_cell? w _ h) (fun e => hne (by simpa using e)))]
  exact h
theorem frz_set1 {w : World} {b o x o' : Nat} {v : Value} (h : w.frozen? ⟨b, o, none⟩ = false) : (w.setCell ⟨x, o', none⟩ v).frozen? ⟨b, o, none⟩ = false := by
  simpa [go_sem] using h
theorem OwnG.ne_of {α : Type} {K : Kd α} {t : TypeId} {w : World} {B x : Nat} {v : Value} {ps : List α} (h : OwnG K t w B v ps) (hx : x < B) : ∀ k, v.ownBlock = some k → some x ≠ some k := fun k hk e => by
  have := (OwnG.lt h k hk).1
  simp at e; omega
theorem bx8 (w : World) (t : TypeId) (v0 v1 v2 v3 v4 v5 v6 v7 : Value) : (w.alloc (.cells #[v0, v1, v2, v3, v4, v5, v6, v7] t)).cell? ⟨w.heap.size, 0, none⟩ = some v0 ∧ (w.alloc (.cells #[v0, v1, v2, v3, v4, v5, v6, v7] t)).cell? ⟨w.heap.size, 1, none⟩ = some v1 ∧ (w.alloc (.cells #[v0, v1, v2, v3, v4, v5, v6, v7] t)).cell? ⟨w.heap.size, 2, none⟩ = some v2 ∧ (w.alloc (.cells #[v0, v1, v2, v3, v4, v5, v6, v7] t)).cell? ⟨w.heap.size, 3, none⟩ = some v3 ∧ (w.alloc (.cells #[v0, v1, v2, v3, v4, v5, v6, v7] t)).cell? ⟨w.heap.size, 4, none⟩ = some v4 ∧ (w.alloc (.cells #[v0, v1, v2, v3, v4, v5, v6, v7] t)).cell? ⟨w.heap.size, 5, none⟩ = some v5 ∧ (w.alloc (.cells #[v0, v1, v2, v3, v4, v5, v6, v7] t)).cell? ⟨w.heap.size, 6, none⟩ = some v6 ∧ (w.alloc (.cells #[v0, v1, v2, v3, v4, v5, v6, v7] t)).cell? ⟨w.heap.size, 7, none⟩ = some v7 := ⟨by simp [go_sem], by simp [go_sem], by simp [go_sem], by simp [go_sem], by simp [go_sem], by simp [go_sem], by simp [go_sem], by simp [go_sem]⟩
/-- How much of a law's room a state takes. -/
def totS (ps : List Pl) (bs : List Bk) (ls : List Ls) (ss : List Ss) : Int := totP ps bs + totB ls + totD ss
theorem totB_nn (ls : List Ls) : 0 ≤ totB ls := by unfold totB; omega
theorem totD_nn (ss : List Ss) : 0 ≤ totD ss := by unfold totD; omega
theorem totP_nn (ps : List Pl) (bs : List Bk) : 0 ≤ totP ps bs := by unfold totP; omega

set_option maxRecDepth 10000 in
set_option maxHeartbeats 2000000 in
theorem szState_any (ap : Option Addr) (np cp : Nat) (ab : Option Addr) (nb cb : Nat) (al : Option Addr) (nl cl : Nat) (T N : Int) (aS : Option Addr) (ns cs : Nat) (X C : Int) (ps : List Pl) (bs : List Bk) (ls : List Ls) (ss : List Ss) (w : World) (hnp : np = ps.length) (hnb : nb = bs.length) (hnl : nl = ls.length) (hns : ns = ss.length) (hK : RowG KBk w ab bs) (hL : RowG KLs w al ls) (hS : RowG KSs w aS ss) (h9p : np ≤ 9223372036854775807) (h9b : nb ≤ 9223372036854775807) (h9l : nl ≤ 9223372036854775807) (h9s : ns ≤ 9223372036854775807) (hsb : ∀ q ∈ bs, q.t.size ≤ 9223372036854775807) (hsl : ∀ q ∈ ls, q.t.size ≤ 9223372036854775807) (hss : ∀ q ∈ ss, q.t.size ≤ 9223372036854775807) :
    Calls Tryz.prog 5 #[.agg #[.slice ap np cp, .slice ab nb cb, .slice al nl cl, .int .i64 T, .int .i64 N, .slice aS ns cs, .int .i64 X, .int .i64 C], .int .i64 1048576] w fun e w' => e = .returned (.int .i64 (szT (totS ps bs ls ss))) ∧ Below w.heap.size w w' := by
  have HP := hidP (fun W h => szPlan_any ap np cp ab nb cb ps bs W hnp hnb (hK.later h) h9p h9b hsb)
  have HB := hidP (fun l h0 h1 W h => szBook_at al nl cl T N ls l h0 h1 W hnl (hL.later h) h9l hsl)
  have HD := hidP (fun l h0 h1 W h => szDesk_at aS ns cs X ss l h0 h1 W hns (hS.later h) h9s hss)
  have e1 : totB ls = (ls.length : Int) + (sumL ls : Int) := rfl
  have e2 : totD ss = (ss.length : Int) + (sumS ss : Int) := rfl
  have n1 := totP_nn ps bs
  unfold totS
  clear hK hL hS hnp hnb hnl hns hsb hsl hss
  by_cases ht : totP ps bs ≤ 1048576
  · rw [szT_yes ht] at HP
    have d1 : decide (1048576 - totP ps bs < 0) = false := decide_eq_false (by omega)
    by_cases hb : (ls.length : Int) + (sumL ls : Int) ≤ 1048576 - totP ps bs
    · have HB1 := hidP (fun W h => HB.out (1048576 - totP ps bs) (by omega) (by omega) W h)
      rw [szB_yes hb] at HB1
      have d2 : decide (1048576 - totP ps bs - (ls.length : Int) - (sumL ls : Int) < 0) = false := decide_eq_false (by omega)
      have HD1 := hidP (fun W h => HD.out (1048576 - totP ps bs - (ls.length : Int) - (sumL ls : Int)) (by omega) (by omega) W h)
      have n3 : ¬ (1048576 - totP ps bs < 0) := by omega
      have n4 : ¬ (1048576 - totP ps bs - (ls.length : Int) - (sumL ls : Int) < 0) := by omega
      by_cases hd : (ss.length : Int) + (sumS ss : Int) ≤ 1048576 - totP ps bs - (ls.length : Int) - (sumL ls : Int)
      · rw [szB_yes hd] at HD1
        rw [szT_yes (by omega)]
        have d3 : decide (1048576 - totP ps bs - (ls.length : Int) - (sumL ls : Int) - (ss.length : Int) - (sumS ss : Int) < 0) = false := decide_eq_false (by omega)
        have n5 : ¬ (1048576 - totP ps bs - (ls.length : Int) - (sumL ls : Int) - (ss.length : Int) - (sumS ss : Int) < 0) := by omega
        have HE := hidP (show 1048576 - totP ps bs - (ls.length : Int) - (sumL ls : Int) - (ss.length : Int) - (sumS ss : Int) = 1048576 - (totP ps bs + totB ls + totD ss) by omega)
        generalize 1048576 - totP ps bs - (ls.length : Int) - (sumL ls : Int) - (ss.length : Int) - (sumS ss : Int) = z3 at *
        generalize 1048576 - totP ps bs - (ls.length : Int) - (sumL ls : Int) = z2 at *
        generalize 1048576 - totP ps bs = z1 at *
        clear HB HD
        go_enter Tryz.func5, Tryz.ntmps5
        go_wp2_with fail
        obtain ⟨bx0_W1, bx1_W1, bx2_W1, bx3_W1, bx4_W1, bx5_W1, bx6_W1, bx7_W1⟩ := bx8 w 33 (.slice ap np cp) (.slice ab nb cb) (.slice al nl cl) (.int .i64 T) (.int .i64 N) (.slice aS ns cs) (.int .i64 X) (.int .i64 C)
        have bxF_W1 : ∀ o, (w.alloc (.cells #[.slice ap np cp, .slice ab nb cb, .slice al nl cl, .int .i64 T, .int .i64 N, .slice aS ns cs, .int .i64 X, .int .i64 C] 33)).frozen? ⟨w.heap.size, o, none⟩ = false := fun o => by simp [go_sem]
        have bxL_W1 : w.heap.size < (w.alloc (.cells #[.slice ap np cp, .slice ab nb cb, .slice al nl cl, .int .i64 T, .int .i64 N, .slice aS ns cs, .int .i64 X, .int .i64 C] 33)).heap.size := by simp
        have ab_W1 := alloc_below w (.cells #[.slice ap np cp, .slice ab nb cb, .slice al nl cl, .int .i64 T, .int .i64 N, .slice aS ns cs, .int .i64 X, .int .i64 C] 33)
        have as_W1 : Hid ((w.alloc (.cells #[.slice ap np cp, .slice ab nb cb, .slice al nl cl, .int .i64 T, .int .i64 N, .slice aS ns cs, .int .i64 X, .int .i64 C] 33)).heap.size = w.heap.size + 1) := hidP (by simp)
        generalize w.alloc (.cells #[.slice ap np cp, .slice ab nb cb, .slice al nl cl, .int .i64 T, .int .i64 N, .slice aS ns cs, .int .i64 X, .int .i64 C] 33) = W1 at *
        have acc_W1 := hidP (ab_W1)
        have sz_W1 : Hid (w.heap.size ≤ W1.heap.size) := hidP ab_W1.size
        clear ab_W1 
        refine (HP.out _ acc_W1.out).mono ?_
        rintro e u0 ⟨rfl, hb0⟩
        have bx0_u0 := (hb0.cell bxL_W1).trans bx0_W1
        have bx1_u0 := (hb0.cell bxL_W1).trans bx1_W1
        have bx2_u0 := (hb0.cell bxL_W1).trans bx2_W1
        have bx3_u0 := (hb0.cell bxL_W1).trans bx3_W1
        have bx4_u0 := (hb0.cell bxL_W1).trans bx4_W1
        have bx5_u0 := (hb0.cell bxL_W1).trans bx5_W1
        have bx6_u0 := (hb0.cell bxL_W1).trans bx6_W1
        have bx7_u0 := (hb0.cell bxL_W1).trans bx7_W1
        have bxF_u0 : ∀ o, u0.frozen? ⟨w.heap.size, o, none⟩ = false := fun o => (hb0.frozen bxL_W1).trans (bxF_W1 o)
        have bxL_u0 : w.heap.size < u0.heap.size := Nat.lt_of_lt_of_le bxL_W1 hb0.size
        have acc_u0 := hidP (acc_W1.out.trans (hb0.mono acc_W1.out.size))
        have sz_u0 : Hid (W1.heap.size ≤ u0.heap.size) := hidP hb0.size
        clear hb0 bx0_W1 bx1_W1 bx2_W1 bx3_W1 bx4_W1 bx5_W1 bx6_W1 bx7_W1 bxF_W1 bxL_W1 acc_W1
        go_wp2_with fail
        refine (HB1.out _ acc_u0.out).mono ?_
        rintro e u1 ⟨rfl, hb1⟩
        have bx0_u1 := (hb1.cell bxL_u0).trans bx0_u0
        have bx1_u1 := (hb1.cell bxL_u0).trans bx1_u0
        have bx2_u1 := (hb1.cell bxL_u0).trans bx2_u0
        have bx3_u1 := (hb1.cell bxL_u0).trans bx3_u0
        have bx4_u1 := (hb1.cell bxL_u0).trans bx4_u0
        have bx5_u1 := (hb1.cell bxL_u0).trans bx5_u0
        have bx6_u1 := (hb1.cell bxL_u0).trans bx6_u0
        have bx7_u1 := (hb1.cell bxL_u0).trans bx7_u0
        have bxF_u1 : ∀ o, u1.frozen? ⟨w.heap.size, o, none⟩ = false := fun o => (hb1.frozen bxL_u0).trans (bxF_u0 o)
        have bxL_u1 : w.heap.size < u1.heap.size := Nat.lt_of_lt_of_le bxL_u0 hb1.size
        have acc_u1 := hidP (acc_u0.out.trans (hb1.mono acc_u0.out.size))
        have sz_u1 : Hid (u0.heap.size ≤ u1.heap.size) := hidP hb1.size
        clear hb1 bx0_u0 bx1_u0 bx2_u0 bx3_u0 bx4_u0 bx5_u0 bx6_u0 bx7_u0 bxF_u0 bxL_u0 acc_u0
        go_wp2_with fail
        refine (HD1.out _ acc_u1.out).mono ?_
        rintro e u2 ⟨rfl, hb2⟩
        have bx0_u2 := (hb2.cell bxL_u1).trans bx0_u1
        have bx1_u2 := (hb2.cell bxL_u1).trans bx1_u1
        have bx2_u2 := (hb2.cell bxL_u1).trans bx2_u1
        have bx3_u2 := (hb2.cell bxL_u1).trans bx3_u1
        have bx4_u2 := (hb2.cell bxL_u1).trans bx4_u1
        have bx5_u2 := (hb2.cell bxL_u1).trans bx5_u1
        have bx6_u2 := (hb2.cell bxL_u1).trans bx6_u1
        have bx7_u2 := (hb2.cell bxL_u1).trans bx7_u1
        have bxF_u2 : ∀ o, u2.frozen? ⟨w.heap.size, o, none⟩ = false := fun o => (hb2.frozen bxL_u1).trans (bxF_u1 o)
        have bxL_u2 : w.heap.size < u2.heap.size := Nat.lt_of_lt_of_le bxL_u1 hb2.size
        have acc_u2 := hidP (acc_u1.out.trans (hb2.mono acc_u1.out.size))
        have sz_u2 : Hid (u1.heap.size ≤ u2.heap.size) := hidP hb2.size
        clear hb2 bx0_u1 bx1_u1 bx2_u1 bx3_u1 bx4_u1 bx5_u1 bx6_u1 bx7_u1 bxF_u1 bxL_u1 acc_u1
        go_wp2_with fail
        go_ret
        exact ⟨ret_i HE.out, acc_u2.out⟩
      · rw [szB_no hd] at HD1
        rw [szT_no (by omega)]
        generalize 1048576 - totP ps bs - (ls.length : Int) - (sumL ls : Int) = z2 at *
        generalize 1048576 - totP ps bs = z1 at *
        clear HB HD
        go_enter Tryz.func5, Tryz.ntmps5
        go_wp2_with fail
        obtain ⟨bx0_W1, bx1_W1, bx2_W1, bx3_W1, bx4_W1, bx5_W1, bx6_W1, bx7_W1⟩ := bx8 w 33 (.slice ap np cp) (.slice ab nb cb) (.slice al nl cl) (.int .i64 T) (.int .i64 N) (.slice aS ns cs) (.int .i64 X) (.int .i64 C)
        have bxF_W1 : ∀ o, (w.alloc (.cells #[.slice ap np cp, .slice ab nb cb, .slice al nl cl, .int .i64 T, .int .i64 N, .slice aS ns cs, .int .i64 X, .int .i64 C] 33)).frozen? ⟨w.heap.size, o, none⟩ = false := fun o => by simp [go_sem]
        have bxL_W1 : w.heap.size < (w.alloc (.cells #[.slice ap np cp, .slice ab nb cb, .slice al nl cl, .int .i64 T, .int .i64 N, .slice aS ns cs, .int .i64 X, .int .i64 C] 33)).heap.size := by simp
        have ab_W1 := alloc_below w (.cells #[.slice ap np cp, .slice ab nb cb, .slice al nl cl, .int .i64 T, .int .i64 N, .slice aS ns cs, .int .i64 X, .int .i64 C] 33)
        have as_W1 : Hid ((w.alloc (.cells #[.slice ap np cp, .slice ab nb cb, .slice al nl cl, .int .i64 T, .int .i64 N, .slice aS ns cs, .int .i64 X, .int .i64 C] 33)).heap.size = w.heap.size + 1) := hidP (by simp)
        generalize w.alloc (.cells #[.slice ap np cp, .slice ab nb cb, .slice al nl cl, .int .i64 T, .int .i64 N, .slice aS ns cs, .int .i64 X, .int .i64 C] 33) = W1 at *
        have acc_W1 := hidP (ab_W1)
        have sz_W1 : Hid (w.heap.size ≤ W1.heap.size) := hidP ab_W1.size
        clear ab_W1 
        refine (HP.out _ acc_W1.out).mono ?_
        rintro e u0 ⟨rfl, hb0⟩
        have bx0_u0 := (hb0.cell bxL_W1).trans bx0_W1
        have bx1_u0 := (hb0.cell bxL_W1).trans bx1_W1
        have bx2_u0 := (hb0.cell bxL_W1).trans bx2_W1
        have bx3_u0 := (hb0.cell bxL_W1).trans bx3_W1
        have bx4_u0 := (hb0.cell bxL_W1).trans bx4_W1
        have bx5_u0 := (hb0.cell bxL_W1).trans bx5_W1
        have bx6_u0 := (hb0.cell bxL_W1).trans bx6_W1
        have bx7_u0 := (hb0.cell bxL_W1).trans bx7_W1
        have bxF_u0 : ∀ o, u0.frozen? ⟨w.heap.size, o, none⟩ = false := fun o => (hb0.frozen bxL_W1).trans (bxF_W1 o)
        have bxL_u0 : w.heap.size < u0.heap.size := Nat.lt_of_lt_of_le bxL_W1 hb0.size
        have acc_u0 := hidP (acc_W1.out.trans (hb0.mono acc_W1.out.size))
        have sz_u0 : Hid (W1.heap.size ≤ u0.heap.size) := hidP hb0.size
        clear hb0 bx0_W1 bx1_W1 bx2_W1 bx3_W1 bx4_W1 bx5_W1 bx6_W1 bx7_W1 bxF_W1 bxL_W1 acc_W1
        go_wp2_with fail
        refine (HB1.out _ acc_u0.out).mono ?_
        rintro e u1 ⟨rfl, hb1⟩
        have bx0_u1 := (hb1.cell bxL_u0).trans bx0_u0
        have bx1_u1 := (hb1.cell bxL_u0).trans bx1_u0
        have bx2_u1 := (hb1.cell bxL_u0).trans bx2_u0
        have bx3_u1 := (hb1.cell bxL_u0).trans bx3_u0
        have bx4_u1 := (hb1.cell bxL_u0).trans bx4_u0
        have bx5_u1 := (hb1.cell bxL_u0).trans bx5_u0
        have bx6_u1 := (hb1.cell bxL_u0).trans bx6_u0
        have bx7_u1 := (hb1.cell bxL_u0).trans bx7_u0
        have bxF_u1 : ∀ o, u1.frozen? ⟨w.heap.size, o, none⟩ = false := fun o => (hb1.frozen bxL_u0).trans (bxF_u0 o)
        have bxL_u1 : w.heap.size < u1.heap.size := Nat.lt_of_lt_of_le bxL_u0 hb1.size
        have acc_u1 := hidP (acc_u0.out.trans (hb1.mono acc_u0.out.size))
        have sz_u1 : Hid (u0.heap.size ≤ u1.heap.size) := hidP hb1.size
        clear hb1 bx0_u0 bx1_u0 bx2_u0 bx3_u0 bx4_u0 bx5_u0 bx6_u0 bx7_u0 bxF_u0 bxL_u0 acc_u0
        go_wp2_with fail
        refine (HD1.out _ acc_u1.out).mono ?_
        rintro e u2 ⟨rfl, hb2⟩
        have bx0_u2 := (hb2.cell bxL_u1).trans bx0_u1
        have bx1_u2 := (hb2.cell bxL_u1).trans bx1_u1
        have bx2_u2 := (hb2.cell bxL_u1).trans bx2_u1
        have bx3_u2 := (hb2.cell bxL_u1).trans bx3_u1
        have bx4_u2 := (hb2.cell bxL_u1).trans bx4_u1
        have bx5_u2 := (hb2.cell bxL_u1).trans bx5_u1
        have bx6_u2 := (hb2.cell bxL_u1).trans bx6_u1
        have bx7_u2 := (hb2.cell bxL_u1).trans bx7_u1
        have bxF_u2 : ∀ o, u2.frozen? ⟨w.heap.size, o, none⟩ = false := fun o => (hb2.frozen bxL_u1).trans (bxF_u1 o)
        have bxL_u2 : w.heap.size < u2.heap.size := Nat.lt_of_lt_of_le bxL_u1 hb2.size
        have acc_u2 := hidP (acc_u1.out.trans (hb2.mono acc_u1.out.size))
        have sz_u2 : Hid (u1.heap.size ≤ u2.heap.size) := hidP hb2.size
        clear hb2 bx0_u1 bx1_u1 bx2_u1 bx3_u1 bx4_u1 bx5_u1 bx6_u1 bx7_u1 bxF_u1 bxL_u1 acc_u1
        go_wp2_with fail
        go_ret
        exact ⟨rfl, acc_u2.out⟩
    · have HB1 := hidP (fun W h => HB.out (1048576 - totP ps bs) (by omega) (by omega) W h)
      rw [szB_no hb] at HB1
      have n2 := totD_nn ss
      rw [szT_no (by omega)]
      have n3 : ¬ (1048576 - totP ps bs < 0) := by omega
      generalize 1048576 - totP ps bs = z1 at *
      clear HB HD
      go_enter Tryz.func5, Tryz.ntmps5
      go_wp2_with fail
      obtain ⟨bx0_W1, bx1_W1, bx2_W1, bx3_W1, bx4_W1, bx5_W1, bx6_W1, bx7_W1⟩ := bx8 w 33 (.slice ap np cp) (.slice ab nb cb) (.slice al nl cl) (.int .i64 T) (.int .i64 N) (.slice aS ns cs) (.int .i64 X) (.int .i64 C)
      have bxF_W1 : ∀ o, (w.alloc (.cells #[.slice ap np cp, .slice ab nb cb, .slice al nl cl, .int .i64 T, .int .i64 N, .slice aS ns cs, .int .i64 X, .int .i64 C] 33)).frozen? ⟨w.heap.size, o, none⟩ = false := fun o => by simp [go_sem]
      have bxL_W1 : w.heap.size < (w.alloc (.cells #[.slice ap np cp, .slice ab nb cb, .slice al nl cl, .int .i64 T, .int .i64 N, .slice aS ns cs, .int .i64 X, .int .i64 C] 33)).heap.size := by simp
      have ab_W1 := alloc_below w (.cells #[.slice ap np cp, .slice ab nb cb, .slice al nl cl, .int .i64 T, .int .i64 N, .slice aS ns cs, .int .i64 X, .int .i64 C] 33)
      have as_W1 : Hid ((w.alloc (.cells #[.slice ap np cp, .slice ab nb cb, .slice al nl cl, .int .i64 T, .int .i64 N, .slice aS ns cs, .int .i64 X, .int .i64 C] 33)).heap.size = w.heap.size + 1) := hidP (by simp)
      generalize w.alloc (.cells #[.slice ap np cp, .slice ab nb cb, .slice al nl cl, .int .i64 T, .int .i64 N, .slice aS ns cs, .int .i64 X, .int .i64 C] 33) = W1 at *
      have acc_W1 := hidP (ab_W1)
      have sz_W1 : Hid (w.heap.size ≤ W1.heap.size) := hidP ab_W1.size
      clear ab_W1 
      refine (HP.out _ acc_W1.out).mono ?_
      rintro e u0 ⟨rfl, hb0⟩
      have bx0_u0 := (hb0.cell bxL_W1).trans bx0_W1
      have bx1_u0 := (hb0.cell bxL_W1).trans bx1_W1
      have bx2_u0 := (hb0.cell bxL_W1).trans bx2_W1
      have bx3_u0 := (hb0.cell bxL_W1).trans bx3_W1
      have bx4_u0 := (hb0.cell bxL_W1).trans bx4_W1
      have bx5_u0 := (hb0.cell bxL_W1).trans bx5_W1
      have bx6_u0 := (hb0.cell bxL_W1).trans bx6_W1
      have bx7_u0 := (hb0.cell bxL_W1).trans bx7_W1
      have bxF_u0 : ∀ o, u0.frozen? ⟨w.heap.size, o, none⟩ = false := fun o => (hb0.frozen bxL_W1).trans (bxF_W1 o)
      have bxL_u0 : w.heap.size < u0.heap.size := Nat.lt_of_lt_of_le bxL_W1 hb0.size
      have acc_u0 := hidP (acc_W1.out.trans (hb0.mono acc_W1.out.size))
      have sz_u0 : Hid (W1.heap.size ≤ u0.heap.size) := hidP hb0.size
      clear hb0 bx0_W1 bx1_W1 bx2_W1 bx3_W1 bx4_W1 bx5_W1 bx6_W1 bx7_W1 bxF_W1 bxL_W1 acc_W1
      go_wp2_with fail
      refine (HB1.out _ acc_u0.out).mono ?_
      rintro e u1 ⟨rfl, hb1⟩
      have bx0_u1 := (hb1.cell bxL_u0).trans bx0_u0
      have bx1_u1 := (hb1.cell bxL_u0).trans bx1_u0
      have bx2_u1 := (hb1.cell bxL_u0).trans bx2_u0
      have bx3_u1 := (hb1.cell bxL_u0).trans bx3_u0
      have bx4_u1 := (hb1.cell bxL_u0).trans bx4_u0
      have bx5_u1 := (hb1.cell bxL_u0).trans bx5_u0
      have bx6_u1 := (hb1.cell bxL_u0).trans bx6_u0
      have bx7_u1 := (hb1.cell bxL_u0).trans bx7_u0
      have bxF_u1 : ∀ o, u1.frozen? ⟨w.heap.size, o, none⟩ = false := fun o => (hb1.frozen bxL_u0).trans (bxF_u0 o)
      have bxL_u1 : w.heap.size < u1.heap.size := Nat.lt_of_lt_of_le bxL_u0 hb1.size
      have acc_u1 := hidP (acc_u0.out.trans (hb1.mono acc_u0.out.size))
      have sz_u1 : Hid (u0.heap.size ≤ u1.heap.size) := hidP hb1.size
      clear hb1 bx0_u0 bx1_u0 bx2_u0 bx3_u0 bx4_u0 bx5_u0 bx6_u0 bx7_u0 bxF_u0 bxL_u0 acc_u0
      go_wp2_with fail
      go_ret
      exact ⟨rfl, acc_u1.out⟩
  · rw [szT_no ht] at HP
    have n2 := totD_nn ss
    have n3 := totB_nn ls
    rw [szT_no (by omega)]
    clear HB HD
    go_enter Tryz.func5, Tryz.ntmps5
    go_wp2_with fail
    obtain ⟨bx0_W1, bx1_W1, bx2_W1, bx3_W1, bx4_W1, bx5_W1, bx6_W1, bx7_W1⟩ := bx8 w 33 (.slice ap np cp) (.slice ab nb cb) (.slice al nl cl) (.int .i64 T) (.int .i64 N) (.slice aS ns cs) (.int .i64 X) (.int .i64 C)
    have bxF_W1 : ∀ o, (w.alloc (.cells #[.slice ap np cp, .slice ab nb cb, .slice al nl cl, .int .i64 T, .int .i64 N, .slice aS ns cs, .int .i64 X, .int .i64 C] 33)).frozen? ⟨w.heap.size, o, none⟩ = false := fun o => by simp [go_sem]
    have bxL_W1 : w.heap.size < (w.alloc (.cells #[.slice ap np cp, .slice ab nb cb, .slice al nl cl, .int .i64 T, .int .i64 N, .slice aS ns cs, .int .i64 X, .int .i64 C] 33)).heap.size := by simp
    have ab_W1 := alloc_below w (.cells #[.slice ap np cp, .slice ab nb cb, .slice al nl cl, .int .i64 T, .int .i64 N, .slice aS ns cs, .int .i64 X, .int .i64 C] 33)
    have as_W1 : Hid ((w.alloc (.cells #[.slice ap np cp, .slice ab nb cb, .slice al nl cl, .int .i64 T, .int .i64 N, .slice aS ns cs, .int .i64 X, .int .i64 C] 33)).heap.size = w.heap.size + 1) := hidP (by simp)
    generalize w.alloc (.cells #[.slice ap np cp, .slice ab nb cb, .slice al nl cl, .int .i64 T, .int .i64 N, .slice aS ns cs, .int .i64 X, .int .i64 C] 33) = W1 at *
    have acc_W1 := hidP (ab_W1)
    have sz_W1 : Hid (w.heap.size ≤ W1.heap.size) := hidP ab_W1.size
    clear ab_W1 
    refine (HP.out _ acc_W1.out).mono ?_
    rintro e u0 ⟨rfl, hb0⟩
    have bx0_u0 := (hb0.cell bxL_W1).trans bx0_W1
    have bx1_u0 := (hb0.cell bxL_W1).trans bx1_W1
    have bx2_u0 := (hb0.cell bxL_W1).trans bx2_W1
    have bx3_u0 := (hb0.cell bxL_W1).trans bx3_W1
    have bx4_u0 := (hb0.cell bxL_W1).trans bx4_W1
    have bx5_u0 := (hb0.cell bxL_W1).trans bx5_W1
    have bx6_u0 := (hb0.cell bxL_W1).trans bx6_W1
    have bx7_u0 := (hb0.cell bxL_W1).trans bx7_W1
    have bxF_u0 : ∀ o, u0.frozen? ⟨w.heap.size, o, none⟩ = false := fun o => (hb0.frozen bxL_W1).trans (bxF_W1 o)
    have bxL_u0 : w.heap.size < u0.heap.size := Nat.lt_of_lt_of_le bxL_W1 hb0.size
    have acc_u0 := hidP (acc_W1.out.trans (hb0.mono acc_W1.out.size))
    have sz_u0 : Hid (W1.heap.size ≤ u0.heap.size) := hidP hb0.size
    clear hb0 bx0_W1 bx1_W1 bx2_W1 bx3_W1 bx4_W1 bx5_W1 bx6_W1 bx7_W1 bxF_W1 bxL_W1 acc_W1
    go_wp2_with fail
    go_ret
    exact ⟨rfl, acc_u0.out⟩

set_option maxRecDepth 10000 in
set_option maxHeartbeats 4000000 in
theorem toState_any (ap : Option Addr) (np cp : Nat) (ab : Option Addr) (nb cb : Nat) (al : Option Addr) (nl cl : Nat) (T N : Int) (aS : Option Addr) (ns cs : Nat) (X C : Int) (ps : List Pl) (bs : List Bk) (ls : List Ls) (ss : List Ss) (w : World) (hnp : np = ps.length) (hnb : nb = bs.length) (hnl : nl = ls.length) (hns : ns = ss.length) (hP : RowG KPl w ap ps) (hK : RowG KBk w ab bs) (hL : RowG KLs w al ls) (hS : RowG KSs w aS ss) (hlp : np ≤ 1048576) (hlb : nb ≤ 1048576) (hll : nl ≤ 1048576) (hls : ns ≤ 1048576) :
    Calls Tryz.prog 7 #[.agg #[.slice ap np cp, .slice ab nb cb, .slice al nl cl, .int .i64 T, .int .i64 N, .slice aS ns cs, .int .i64 X, .int .i64 C]] w fun e w' => ∃ g h i j, e = .returned (.agg #[.slice (some ⟨g, 0, none⟩) np np, .slice (some ⟨h, 0, none⟩) nb nb, .slice (some ⟨i, 0, none⟩) nl nl, .int .i64 T, .int .i64 N, .slice (some ⟨j, 0, none⟩) ns ns, .int .i64 X, .int .i64 C]) ∧ OwnG KPl 86 w' w.heap.size (.slice (some ⟨g, 0, none⟩) np np) ps ∧ OwnG KBk 67 w' w.heap.size (.slice (some ⟨h, 0, none⟩) nb nb) bs ∧ OwnG KLs 71 w' w.heap.size (.slice (some ⟨i, 0, none⟩) nl nl) ls ∧ OwnG KSs 96 w' w.heap.size (.slice (some ⟨j, 0, none⟩) ns ns) ss ∧ Below w.heap.size w w' := by
  have HP := hidP (fun W h => toPlan_any ap np cp ab nb cb ps bs W hnp hnb (hP.later h) (hK.later h) hlp hlb)
  have HB := hidP (fun W h => toBook_any al nl cl T N ls W hnl (hL.later h) hll)
  have HD := hidP (fun W h => toDesk_any aS ns cs X ss W hns (hS.later h) hls)
  clear hP hK hL hS hnp hnb hnl hns
  go_enter Tryz.func7, Tryz.ntmps7
  go_wp2_with fail
  obtain ⟨la0_W1, la1_W1, la2_W1, la3_W1, la4_W1, la5_W1, la6_W1, la7_W1⟩ := bx8 w 33 (.slice ap np cp) (.slice ab nb cb) (.slice al nl cl) (.int .i64 T) (.int .i64 N) (.slice aS ns cs) (.int .i64 X) (.int .i64 C)
  have laF_W1 : ∀ o, (w.alloc (.cells #[.slice ap np cp, .slice ab nb cb, .slice al nl cl, .int .i64 T, .int .i64 N, .slice aS ns cs, .int .i64 X, .int .i64 C] 33)).frozen? ⟨w.heap.size, o, none⟩ = false := fun o => by simp [go_sem]
  have laL_W1 : w.heap.size < (w.alloc (.cells #[.slice ap np cp, .slice ab nb cb, .slice al nl cl, .int .i64 T, .int .i64 N, .slice aS ns cs, .int .i64 X, .int .i64 C] 33)).heap.size := by simp
  have ab_W1 := alloc_below w (.cells #[.slice ap np cp, .slice ab nb cb, .slice al nl cl, .int .i64 T, .int .i64 N, .slice aS ns cs, .int .i64 X, .int .i64 C] 33)
  have as_W1 : Hid ((w.alloc (.cells #[.slice ap np cp, .slice ab nb cb, .slice al nl cl, .int .i64 T, .int .i64 N, .slice aS ns cs, .int .i64 X, .int .i64 C] 33)).heap.size = w.heap.size + 1) := hidP (by simp)
  generalize w.alloc (.cells #[.slice ap np cp, .slice ab nb cb, .slice al nl cl, .int .i64 T, .int .i64 N, .slice aS ns cs, .int .i64 X, .int .i64 C] 33) = W1 at *
  have acc_W1 := hidP (ab_W1)
  have sz_W1 : Hid (w.heap.size ≤ W1.heap.size) := hidP ab_W1.size
  clear ab_W1 
  obtain ⟨re0_W2, re1_W2, re2_W2, re3_W2, re4_W2, re5_W2, re6_W2, re7_W2⟩ := bx8 W1 47 (.slice none 0 0) (.slice none 0 0) (.slice none 0 0) (.int .i64 0) (.int .i64 0) (.slice none 0 0) (.int .i64 0) (.int .i64 0)
  have reF_W2 : ∀ o, (W1.alloc (.cells #[.slice none 0 0, .slice none 0 0, .slice none 0 0, .int .i64 0, .int .i64 0, .slice none 0 0, .int .i64 0, .int .i64 0] 47)).frozen? ⟨W1.heap.size, o, none⟩ = false := fun o => by simp [go_sem]
  have reL_W2 : W1.heap.size < (W1.alloc (.cells #[.slice none 0 0, .slice none 0 0, .slice none 0 0, .int .i64 0, .int .i64 0, .slice none 0 0, .int .i64 0, .int .i64 0] 47)).heap.size := by simp
  have ab_W2 := alloc_below W1 (.cells #[.slice none 0 0, .slice none 0 0, .slice none 0 0, .int .i64 0, .int .i64 0, .slice none 0 0, .int .i64 0, .int .i64 0] 47)
  have as_W2 : Hid ((W1.alloc (.cells #[.slice none 0 0, .slice none 0 0, .slice none 0 0, .int .i64 0, .int .i64 0, .slice none 0 0, .int .i64 0, .int .i64 0] 47)).heap.size = W1.heap.size + 1) := hidP (by simp)
  generalize W1.alloc (.cells #[.slice none 0 0, .slice none 0 0, .slice none 0 0, .int .i64 0, .int .i64 0, .slice none 0 0, .int .i64 0, .int .i64 0] 47) = W2 at *
  have la0_W2 := (ab_W2.cell laL_W1).trans la0_W1
  have la1_W2 := (ab_W2.cell laL_W1).trans la1_W1
  have la2_W2 := (ab_W2.cell laL_W1).trans la2_W1
  have la3_W2 := (ab_W2.cell laL_W1).trans la3_W1
  have la4_W2 := (ab_W2.cell laL_W1).trans la4_W1
  have la5_W2 := (ab_W2.cell laL_W1).trans la5_W1
  have la6_W2 := (ab_W2.cell laL_W1).trans la6_W1
  have la7_W2 := (ab_W2.cell laL_W1).trans la7_W1
  have laF_W2 : ∀ o, W2.frozen? ⟨w.heap.size, o, none⟩ = false := fun o => (ab_W2.frozen laL_W1).trans (laF_W1 o)
  have laL_W2 : w.heap.size < W2.heap.size := Nat.lt_of_lt_of_le laL_W1 ab_W2.size
  have acc_W2 := hidP (acc_W1.out.trans (ab_W2.mono acc_W1.out.size))
  have sz_W2 : Hid (W1.heap.size ≤ W2.heap.size) := hidP ab_W2.size
  clear ab_W2 la0_W1 la1_W1 la2_W1 la3_W1 la4_W1 la5_W1 la6_W1 la7_W1 laF_W1 laL_W1 acc_W1
  obtain ⟨ou0_W3, ou1_W3, ou2_W3, ou3_W3, ou4_W3, ou5_W3, ou6_W3, ou7_W3⟩ := bx8 W2 47 (.slice none 0 0) (.slice none 0 0) (.slice none 0 0) (.int .i64 0) (.int .i64 0) (.slice none 0 0) (.int .i64 0) (.int .i64 0)
  have ouF_W3 : ∀ o, (W2.alloc (.cells #[.slice none 0 0, .slice none 0 0, .slice none 0 0, .int .i64 0, .int .i64 0, .slice none 0 0, .int .i64 0, .int .i64 0] 47)).frozen? ⟨W2.heap.size, o, none⟩ = false := fun o => by simp [go_sem]
  have ouL_W3 : W2.heap.size < (W2.alloc (.cells #[.slice none 0 0, .slice none 0 0, .slice none 0 0, .int .i64 0, .int .i64 0, .slice none 0 0, .int .i64 0, .int .i64 0] 47)).heap.size := by simp
  have ab_W3 := alloc_below W2 (.cells #[.slice none 0 0, .slice none 0 0, .slice none 0 0, .int .i64 0, .int .i64 0, .slice none 0 0, .int .i64 0, .int .i64 0] 47)
  have as_W3 : Hid ((W2.alloc (.cells #[.slice none 0 0, .slice none 0 0, .slice none 0 0, .int .i64 0, .int .i64 0, .slice none 0 0, .int .i64 0, .int .i64 0] 47)).heap.size = W2.heap.size + 1) := hidP (by simp)
  generalize W2.alloc (.cells #[.slice none 0 0, .slice none 0 0, .slice none 0 0, .int .i64 0, .int .i64 0, .slice none 0 0, .int .i64 0, .int .i64 0] 47) = W3 at *
  have la0_W3 := (ab_W3.cell laL_W2).trans la0_W2
  have la1_W3 := (ab_W3.cell laL_W2).trans la1_W2
  have la2_W3 := (ab_W3.cell laL_W2).trans la2_W2
  have la3_W3 := (ab_W3.cell laL_W2).trans la3_W2
  have la4_W3 := (ab_W3.cell laL_W2).trans la4_W2
  have la5_W3 := (ab_W3.cell laL_W2).trans la5_W2
  have la6_W3 := (ab_W3.cell laL_W2).trans la6_W2
  have la7_W3 := (ab_W3.cell laL_W2).trans la7_W2
  have laF_W3 : ∀ o, W3.frozen? ⟨w.heap.size, o, none⟩ = false := fun o => (ab_W3.frozen laL_W2).trans (laF_W2 o)
  have laL_W3 : w.heap.size < W3.heap.size := Nat.lt_of_lt_of_le laL_W2 ab_W3.size
  have re0_W3 := (ab_W3.cell reL_W2).trans re0_W2
  have re1_W3 := (ab_W3.cell reL_W2).trans re1_W2
  have re2_W3 := (ab_W3.cell reL_W2).trans re2_W2
  have re3_W3 := (ab_W3.cell reL_W2).trans re3_W2
  have re4_W3 := (ab_W3.cell reL_W2).trans re4_W2
  have re5_W3 := (ab_W3.cell reL_W2).trans re5_W2
  have re6_W3 := (ab_W3.cell reL_W2).trans re6_W2
  have re7_W3 := (ab_W3.cell reL_W2).trans re7_W2
  have reF_W3 : ∀ o, W3.frozen? ⟨W1.heap.size, o, none⟩ = false := fun o => (ab_W3.frozen reL_W2).trans (reF_W2 o)
  have reL_W3 : W1.heap.size < W3.heap.size := Nat.lt_of_lt_of_le reL_W2 ab_W3.size
  have acc_W3 := hidP (acc_W2.out.trans (ab_W3.mono acc_W2.out.size))
  have sz_W3 : Hid (W2.heap.size ≤ W3.heap.size) := hidP ab_W3.size
  clear ab_W3 la0_W2 la1_W2 la2_W2 la3_W2 la4_W2 la5_W2 la6_W2 la7_W2 laF_W2 laL_W2 re0_W2 re1_W2 re2_W2 re3_W2 re4_W2 re5_W2 re6_W2 re7_W2 reF_W2 reL_W2 acc_W2
  simp only [as_W1.out] at re0_W3 re1_W3 re2_W3 re3_W3 re4_W3 re5_W3 re6_W3 re7_W3 reF_W3 reL_W3
  simp only [as_W2.out, as_W1.out] at ou0_W3 ou1_W3 ou2_W3 ou3_W3 ou4_W3 ou5_W3 ou6_W3 ou7_W3 ouF_W3 ouL_W3
  have Wz : Hid (W3.heap.size = w.heap.size + 3) := hidP (by have := as_W1.out; have := as_W2.out; have := as_W3.out; omega)
  refine (HP.out _ acc_W3.out).mono ?_
  rintro e u1 ⟨g, h, rfl, og, oh, _, hb1⟩
  have OG := hidP og
  have OH := hidP oh
  clear og oh
  have la0_u1 := (hb1.cell laL_W3).trans la0_W3
  have la1_u1 := (hb1.cell laL_W3).trans la1_W3
  have la2_u1 := (hb1.cell laL_W3).trans la2_W3
  have la3_u1 := (hb1.cell laL_W3).trans la3_W3
  have la4_u1 := (hb1.cell laL_W3).trans la4_W3
  have la5_u1 := (hb1.cell laL_W3).trans la5_W3
  have la6_u1 := (hb1.cell laL_W3).trans la6_W3
  have la7_u1 := (hb1.cell laL_W3).trans la7_W3
  have laF_u1 : ∀ o, u1.frozen? ⟨w.heap.size, o, none⟩ = false := fun o => (hb1.frozen laL_W3).trans (laF_W3 o)
  have laL_u1 : w.heap.size < u1.heap.size := Nat.lt_of_lt_of_le laL_W3 hb1.size
  have re0_u1 := (hb1.cell reL_W3).trans re0_W3
  have re1_u1 := (hb1.cell reL_W3).trans re1_W3
  have re2_u1 := (hb1.cell reL_W3).trans re2_W3
  have re3_u1 := (hb1.cell reL_W3).trans re3_W3
  have re4_u1 := (hb1.cell reL_W3).trans re4_W3
  have re5_u1 := (hb1.cell reL_W3).trans re5_W3
  have re6_u1 := (hb1.cell reL_W3).trans re6_W3
  have re7_u1 := (hb1.cell reL_W3).trans re7_W3
  have reF_u1 : ∀ o, u1.frozen? ⟨(w.heap.size + 1), o, none⟩ = false := fun o => (hb1.frozen reL_W3).trans (reF_W3 o)
  have reL_u1 : (w.heap.size + 1) < u1.heap.size := Nat.lt_of_lt_of_le reL_W3 hb1.size
  have ou0_u1 := (hb1.cell ouL_W3).trans ou0_W3
  have ou1_u1 := (hb1.cell ouL_W3).trans ou1_W3
  have ou2_u1 := (hb1.cell ouL_W3).trans ou2_W3
  have ou3_u1 := (hb1.cell ouL_W3).trans ou3_W3
  have ou4_u1 := (hb1.cell ouL_W3).trans ou4_W3
  have ou5_u1 := (hb1.cell ouL_W3).trans ou5_W3
  have ou6_u1 := (hb1.cell ouL_W3).trans ou6_W3
  have ou7_u1 := (hb1.cell ouL_W3).trans ou7_W3
  have ouF_u1 : ∀ o, u1.frozen? ⟨(w.heap.size + 2), o, none⟩ = false := fun o => (hb1.frozen ouL_W3).trans (ouF_W3 o)
  have ouL_u1 : (w.heap.size + 2) < u1.heap.size := Nat.lt_of_lt_of_le ouL_W3 hb1.size
  have acc_u1 := hidP (acc_W3.out.trans (hb1.mono acc_W3.out.size))
  have sz_u1 : Hid (W3.heap.size ≤ u1.heap.size) := hidP hb1.size
  clear hb1 la0_W3 la1_W3 la2_W3 la3_W3 la4_W3 la5_W3 la6_W3 la7_W3 laF_W3 laL_W3 re0_W3 re1_W3 re2_W3 re3_W3 re4_W3 re5_W3 re6_W3 re7_W3 reF_W3 reL_W3 ou0_W3 ou1_W3 ou2_W3 ou3_W3 ou4_W3 ou5_W3 ou6_W3 ou7_W3 ouF_W3 ouL_W3 acc_W3
  have oG_u1 := hidP (OG.out.mono (B' := w.heap.size + 3) (by have := Wz.out; omega))
  have oH_u1 := hidP (OH.out.mono (B' := w.heap.size + 3) (by have := Wz.out; omega))
  clear OG OH
  go_wp2_with fail
  have ou0_W4 : ((u1.setCell ⟨(w.heap.size + 2), 0, none⟩ (.slice (some ⟨g, 0, none⟩) np np)).setCell ⟨(w.heap.size + 2), 1, none⟩ (.slice (some ⟨h, 0, none⟩) nb nb)).cell? ⟨(w.heap.size + 2), 0, none⟩ = some (.slice (some ⟨g, 0, none⟩) np np) := by simp [go_sem, ou0_u1]
  have ou1_W4 : ((u1.setCell ⟨(w.heap.size + 2), 0, none⟩ (.slice (some ⟨g, 0, none⟩) np np)).setCell ⟨(w.heap.size + 2), 1, none⟩ (.slice (some ⟨h, 0, none⟩) nb nb)).cell? ⟨(w.heap.size + 2), 1, none⟩ = some (.slice (some ⟨h, 0, none⟩) nb nb) := by simp [go_sem, ou1_u1]
  have ou2_W4 : ((u1.setCell ⟨(w.heap.size + 2), 0, none⟩ (.slice (some ⟨g, 0, none⟩) np np)).setCell ⟨(w.heap.size + 2), 1, none⟩ (.slice (some ⟨h, 0, none⟩) nb nb)).cell? ⟨(w.heap.size + 2), 2, none⟩ = some (.slice none 0 0) := by simp [go_sem, ou2_u1]
  have ou3_W4 : ((u1.setCell ⟨(w.heap.size + 2), 0, none⟩ (.slice (some ⟨g, 0, none⟩) np np)).setCell ⟨(w.heap.size + 2), 1, none⟩ (.slice (some ⟨h, 0, none⟩) nb nb)).cell? ⟨(w.heap.size + 2), 3, none⟩ = some (.int .i64 0) := by simp [go_sem, ou3_u1]
  have ou4_W4 : ((u1.setCell ⟨(w.heap.size + 2), 0, none⟩ (.slice (some ⟨g, 0, none⟩) np np)).setCell ⟨(w.heap.size + 2), 1, none⟩ (.slice (some ⟨h, 0, none⟩) nb nb)).cell? ⟨(w.heap.size + 2), 4, none⟩ = some (.int .i64 0) := by simp [go_sem, ou4_u1]
  have ou5_W4 : ((u1.setCell ⟨(w.heap.size + 2), 0, none⟩ (.slice (some ⟨g, 0, none⟩) np np)).setCell ⟨(w.heap.size + 2), 1, none⟩ (.slice (some ⟨h, 0, none⟩) nb nb)).cell? ⟨(w.heap.size + 2), 5, none⟩ = some (.slice none 0 0) := by simp [go_sem, ou5_u1]
  have ou6_W4 : ((u1.setCell ⟨(w.heap.size + 2), 0, none⟩ (.slice (some ⟨g, 0, none⟩) np np)).setCell ⟨(w.heap.size + 2), 1, none⟩ (.slice (some ⟨h, 0, none⟩) nb nb)).cell? ⟨(w.heap.size + 2), 6, none⟩ = some (.int .i64 0) := by simp [go_sem, ou6_u1]
  have ou7_W4 : ((u1.setCell ⟨(w.heap.size + 2), 0, none⟩ (.slice (some ⟨g, 0, none⟩) np np)).setCell ⟨(w.heap.size + 2), 1, none⟩ (.slice (some ⟨h, 0, none⟩) nb nb)).cell? ⟨(w.heap.size + 2), 7, none⟩ = some (.int .i64 0) := by simp [go_sem, ou7_u1]
  have la0_W4 : ((u1.setCell ⟨(w.heap.size + 2), 0, none⟩ (.slice (some ⟨g, 0, none⟩) np np)).setCell ⟨(w.heap.size + 2), 1, none⟩ (.slice (some ⟨h, 0, none⟩) nb nb)).cell? ⟨w.heap.size, 0, none⟩ = some (.slice ap np cp) := cell_set1 (cell_set1 (la0_u1) (by omega)) (by omega)
  have la1_W4 : ((u1.setCell ⟨(w.heap.size + 2), 0, none⟩ (.slice (some ⟨g, 0, none⟩) np np)).setCell ⟨(w.heap.size + 2), 1, none⟩ (.slice (some ⟨h, 0, none⟩) nb nb)).cell? ⟨w.heap.size, 1, none⟩ = some (.slice ab nb cb) := cell_set1 (cell_set1 (la1_u1) (by omega)) (by omega)
  have la2_W4 : ((u1.setCell ⟨(w.heap.size + 2), 0, none⟩ (.slice (some ⟨g, 0, none⟩) np np)).setCell ⟨(w.heap.size + 2), 1, none⟩ (.slice (some ⟨h, 0, none⟩) nb nb)).cell? ⟨w.heap.size, 2, none⟩ = some (.slice al nl cl) := cell_set1 (cell_set1 (la2_u1) (by omega)) (by omega)
  have la3_W4 : ((u1.setCell ⟨(w.heap.size + 2), 0, none⟩ (.slice (some ⟨g, 0, none⟩) np np)).setCell ⟨(w.heap.size + 2), 1, none⟩ (.slice (some ⟨h, 0, none⟩) nb nb)).cell? ⟨w.heap.size, 3, none⟩ = some (.int .i64 T) := cell_set1 (cell_set1 (la3_u1) (by omega)) (by omega)
  have la4_W4 : ((u1.setCell ⟨(w.heap.size + 2), 0, none⟩ (.slice (some ⟨g, 0, none⟩) np np)).setCell ⟨(w.heap.size + 2), 1, none⟩ (.slice (some ⟨h, 0, none⟩) nb nb)).cell? ⟨w.heap.size, 4, none⟩ = some (.int .i64 N) := cell_set1 (cell_set1 (la4_u1) (by omega)) (by omega)
  have la5_W4 : ((u1.setCell ⟨(w.heap.size + 2), 0, none⟩ (.slice (some ⟨g, 0, none⟩) np np)).setCell ⟨(w.heap.size + 2), 1, none⟩ (.slice (some ⟨h, 0, none⟩) nb nb)).cell? ⟨w.heap.size, 5, none⟩ = some (.slice aS ns cs) := cell_set1 (cell_set1 (la5_u1) (by omega)) (by omega)
  have la6_W4 : ((u1.setCell ⟨(w.heap.size + 2), 0, none⟩ (.slice (some ⟨g, 0, none⟩) np np)).setCell ⟨(w.heap.size + 2), 1, none⟩ (.slice (some ⟨h, 0, none⟩) nb nb)).cell? ⟨w.heap.size, 6, none⟩ = some (.int .i64 X) := cell_set1 (cell_set1 (la6_u1) (by omega)) (by omega)
  have la7_W4 : ((u1.setCell ⟨(w.heap.size + 2), 0, none⟩ (.slice (some ⟨g, 0, none⟩) np np)).setCell ⟨(w.heap.size + 2), 1, none⟩ (.slice (some ⟨h, 0, none⟩) nb nb)).cell? ⟨w.heap.size, 7, none⟩ = some (.int .i64 C) := cell_set1 (cell_set1 (la7_u1) (by omega)) (by omega)
  have laF_W4 : ∀ o, ((u1.setCell ⟨(w.heap.size + 2), 0, none⟩ (.slice (some ⟨g, 0, none⟩) np np)).setCell ⟨(w.heap.size + 2), 1, none⟩ (.slice (some ⟨h, 0, none⟩) nb nb)).frozen? ⟨w.heap.size, o, none⟩ = false := fun o => frz_set1 (frz_set1 ((laF_u1 o)))
  have laL_W4 : w.heap.size < ((u1.setCell ⟨(w.heap.size + 2), 0, none⟩ (.slice (some ⟨g, 0, none⟩) np np)).setCell ⟨(w.heap.size + 2), 1, none⟩ (.slice (some ⟨h, 0, none⟩) nb nb)).heap.size := by simpa using laL_u1
  have re0_W4 : ((u1.setCell ⟨(w.heap.size + 2), 0, none⟩ (.slice (some ⟨g, 0, none⟩) np np)).setCell ⟨(w.heap.size + 2), 1, none⟩ (.slice (some ⟨h, 0, none⟩) nb nb)).cell? ⟨(w.heap.size + 1), 0, none⟩ = some (.slice none 0 0) := cell_set1 (cell_set1 (re0_u1) (by omega)) (by omega)
  have re1_W4 : ((u1.setCell ⟨(w.heap.size + 2), 0, none⟩ (.slice (some ⟨g, 0, none⟩) np np)).setCell ⟨(w.heap.size + 2), 1, none⟩ (.slice (some ⟨h, 0, none⟩) nb nb)).cell? ⟨(w.heap.size + 1), 1, none⟩ = some (.slice none 0 0) := cell_set1 (cell_set1 (re1_u1) (by omega)) (by omega)
  have re2_W4 : ((u1.setCell ⟨(w.heap.size + 2), 0, none⟩ (.slice (some ⟨g, 0, none⟩) np np)).setCell ⟨(w.heap.size + 2), 1, none⟩ (.slice (some ⟨h, 0, none⟩) nb nb)).cell? ⟨(w.heap.size + 1), 2, none⟩ = some (.slice none 0 0) := cell_set1 (cell_set1 (re2_u1) (by omega)) (by omega)
  have re3_W4 : ((u1.setCell ⟨(w.heap.size + 2), 0, none⟩ (.slice (some ⟨g, 0, none⟩) np np)).setCell ⟨(w.heap.size + 2), 1, none⟩ (.slice (some ⟨h, 0, none⟩) nb nb)).cell? ⟨(w.heap.size + 1), 3, none⟩ = some (.int .i64 0) := cell_set1 (cell_set1 (re3_u1) (by omega)) (by omega)
  have re4_W4 : ((u1.setCell ⟨(w.heap.size + 2), 0, none⟩ (.slice (some ⟨g, 0, none⟩) np np)).setCell ⟨(w.heap.size + 2), 1, none⟩ (.slice (some ⟨h, 0, none⟩) nb nb)).cell? ⟨(w.heap.size + 1), 4, none⟩ = some (.int .i64 0) := cell_set1 (cell_set1 (re4_u1) (by omega)) (by omega)
  have re5_W4 : ((u1.setCell ⟨(w.heap.size + 2), 0, none⟩ (.slice (some ⟨g, 0, none⟩) np np)).setCell ⟨(w.heap.size + 2), 1, none⟩ (.slice (some ⟨h, 0, none⟩) nb nb)).cell? ⟨(w.heap.size + 1), 5, none⟩ = some (.slice none 0 0) := cell_set1 (cell_set1 (re5_u1) (by omega)) (by omega)
  have re6_W4 : ((u1.setCell ⟨(w.heap.size + 2), 0, none⟩ (.slice (some ⟨g, 0, none⟩) np np)).setCell ⟨(w.heap.size + 2), 1, none⟩ (.slice (some ⟨h, 0, none⟩) nb nb)).cell? ⟨(w.heap.size + 1), 6, none⟩ = some (.int .i64 0) := cell_set1 (cell_set1 (re6_u1) (by omega)) (by omega)
  have re7_W4 : ((u1.setCell ⟨(w.heap.size + 2), 0, none⟩ (.slice (some ⟨g, 0, none⟩) np np)).setCell ⟨(w.heap.size + 2), 1, none⟩ (.slice (some ⟨h, 0, none⟩) nb nb)).cell? ⟨(w.heap.size + 1), 7, none⟩ = some (.int .i64 0) := cell_set1 (cell_set1 (re7_u1) (by omega)) (by omega)
  have reF_W4 : ∀ o, ((u1.setCell ⟨(w.heap.size + 2), 0, none⟩ (.slice (some ⟨g, 0, none⟩) np np)).setCell ⟨(w.heap.size + 2), 1, none⟩ (.slice (some ⟨h, 0, none⟩) nb nb)).frozen? ⟨(w.heap.size + 1), o, none⟩ = false := fun o => frz_set1 (frz_set1 ((reF_u1 o)))
  have reL_W4 : (w.heap.size + 1) < ((u1.setCell ⟨(w.heap.size + 2), 0, none⟩ (.slice (some ⟨g, 0, none⟩) np np)).setCell ⟨(w.heap.size + 2), 1, none⟩ (.slice (some ⟨h, 0, none⟩) nb nb)).heap.size := by simpa using reL_u1
  have ouF_W4 : ∀ o, ((u1.setCell ⟨(w.heap.size + 2), 0, none⟩ (.slice (some ⟨g, 0, none⟩) np np)).setCell ⟨(w.heap.size + 2), 1, none⟩ (.slice (some ⟨h, 0, none⟩) nb nb)).frozen? ⟨(w.heap.size + 2), o, none⟩ = false := fun o => frz_set1 (frz_set1 ((ouF_u1 o)))
  have ouL_W4 : (w.heap.size + 2) < ((u1.setCell ⟨(w.heap.size + 2), 0, none⟩ (.slice (some ⟨g, 0, none⟩) np np)).setCell ⟨(w.heap.size + 2), 1, none⟩ (.slice (some ⟨h, 0, none⟩) nb nb)).heap.size := by simpa using ouL_u1
  have oG_W4 : Hid (OwnG KPl 86 ((u1.setCell ⟨(w.heap.size + 2), 0, none⟩ (.slice (some ⟨g, 0, none⟩) np np)).setCell ⟨(w.heap.size + 2), 1, none⟩ (.slice (some ⟨h, 0, none⟩) nb nb)) (w.heap.size + 3) (.slice (some ⟨g, 0, none⟩) np np) (ps)) := hidP (OwnG.grown (OwnG.grown (oG_u1.out) (grown_cellG _ _ _ _) (OwnG.ne_of oG_u1.out (by omega))) (grown_cellG _ _ _ _) (OwnG.ne_of oG_u1.out (by omega)))
  have oH_W4 : Hid (OwnG KBk 67 ((u1.setCell ⟨(w.heap.size + 2), 0, none⟩ (.slice (some ⟨g, 0, none⟩) np np)).setCell ⟨(w.heap.size + 2), 1, none⟩ (.slice (some ⟨h, 0, none⟩) nb nb)) (w.heap.size + 3) (.slice (some ⟨h, 0, none⟩) nb nb) (bs)) := hidP (OwnG.grown (OwnG.grown (oH_u1.out) (grown_cellG _ _ _ _) (OwnG.ne_of oH_u1.out (by omega))) (grown_cellG _ _ _ _) (OwnG.ne_of oH_u1.out (by omega)))
  have acc_W4 : Hid (Below w.heap.size w ((u1.setCell ⟨(w.heap.size + 2), 0, none⟩ (.slice (some ⟨g, 0, none⟩) np np)).setCell ⟨(w.heap.size + 2), 1, none⟩ (.slice (some ⟨h, 0, none⟩) nb nb))) := hidP (Below.setCell (Below.setCell (acc_u1.out) (by try dsimp only; omega) _) (by try dsimp only; omega) _)
  have sz_W4 : Hid (((u1.setCell ⟨(w.heap.size + 2), 0, none⟩ (.slice (some ⟨g, 0, none⟩) np np)).setCell ⟨(w.heap.size + 2), 1, none⟩ (.slice (some ⟨h, 0, none⟩) nb nb)).heap.size = u1.heap.size) := hidP (by simp)
  generalize (u1.setCell ⟨(w.heap.size + 2), 0, none⟩ (.slice (some ⟨g, 0, none⟩) np np)).setCell ⟨(w.heap.size + 2), 1, none⟩ (.slice (some ⟨h, 0, none⟩) nb nb) = W4 at *
  clear ou0_u1 ou1_u1 ou2_u1 ou3_u1 ou4_u1 ou5_u1 ou6_u1 ou7_u1 la0_u1 la1_u1 la2_u1 la3_u1 la4_u1 la5_u1 la6_u1 la7_u1 laF_u1 laL_u1 re0_u1 re1_u1 re2_u1 re3_u1 re4_u1 re5_u1 re6_u1 re7_u1 reF_u1 reL_u1 ouF_u1 ouL_u1 oG_u1 oH_u1 acc_u1
  refine (HB.out _ acc_W4.out).mono ?_
  rintro e u2 ⟨i, rfl, oi, hb2⟩
  have OI := hidP oi
  clear oi
  have la0_u2 := (hb2.cell laL_W4).trans la0_W4
  have la1_u2 := (hb2.cell laL_W4).trans la1_W4
  have la2_u2 := (hb2.cell laL_W4).trans la2_W4
  have la3_u2 := (hb2.cell laL_W4).trans la3_W4
  have la4_u2 := (hb2.cell laL_W4).trans la4_W4
  have la5_u2 := (hb2.cell laL_W4).trans la5_W4
  have la6_u2 := (hb2.cell laL_W4).trans la6_W4
  have la7_u2 := (hb2.cell laL_W4).trans la7_W4
  have laF_u2 : ∀ o, u2.frozen? ⟨w.heap.size, o, none⟩ = false := fun o => (hb2.frozen laL_W4).trans (laF_W4 o)
  have laL_u2 : w.heap.size < u2.heap.size := Nat.lt_of_lt_of_le laL_W4 hb2.size
  have re0_u2 := (hb2.cell reL_W4).trans re0_W4
  have re1_u2 := (hb2.cell reL_W4).trans re1_W4
  have re2_u2 := (hb2.cell reL_W4).trans re2_W4
  have re3_u2 := (hb2.cell reL_W4).trans re3_W4
  have re4_u2 := (hb2.cell reL_W4).trans re4_W4
  have re5_u2 := (hb2.cell reL_W4).trans re5_W4
  have re6_u2 := (hb2.cell reL_W4).trans re6_W4
  have re7_u2 := (hb2.cell reL_W4).trans re7_W4
  have reF_u2 : ∀ o, u2.frozen? ⟨(w.heap.size + 1), o, none⟩ = false := fun o => (hb2.frozen reL_W4).trans (reF_W4 o)
  have reL_u2 : (w.heap.size + 1) < u2.heap.size := Nat.lt_of_lt_of_le reL_W4 hb2.size
  have ou0_u2 := (hb2.cell ouL_W4).trans ou0_W4
  have ou1_u2 := (hb2.cell ouL_W4).trans ou1_W4
  have ou2_u2 := (hb2.cell ouL_W4).trans ou2_W4
  have ou3_u2 := (hb2.cell ouL_W4).trans ou3_W4
  have ou4_u2 := (hb2.cell ouL_W4).trans ou4_W4
  have ou5_u2 := (hb2.cell ouL_W4).trans ou5_W4
  have ou6_u2 := (hb2.cell ouL_W4).trans ou6_W4
  have ou7_u2 := (hb2.cell ouL_W4).trans ou7_W4
  have ouF_u2 : ∀ o, u2.frozen? ⟨(w.heap.size + 2), o, none⟩ = false := fun o => (hb2.frozen ouL_W4).trans (ouF_W4 o)
  have ouL_u2 : (w.heap.size + 2) < u2.heap.size := Nat.lt_of_lt_of_le ouL_W4 hb2.size
  have oG_u2 := hidP (OwnG.later oG_W4.out hb2)
  have oH_u2 := hidP (OwnG.later oH_W4.out hb2)
  have acc_u2 := hidP (acc_W4.out.trans (hb2.mono acc_W4.out.size))
  have sz_u2 : Hid (W4.heap.size ≤ u2.heap.size) := hidP hb2.size
  clear hb2 la0_W4 la1_W4 la2_W4 la3_W4 la4_W4 la5_W4 la6_W4 la7_W4 laF_W4 laL_W4 re0_W4 re1_W4 re2_W4 re3_W4 re4_W4 re5_W4 re6_W4 re7_W4 reF_W4 reL_W4 ou0_W4 ou1_W4 ou2_W4 ou3_W4 ou4_W4 ou5_W4 ou6_W4 ou7_W4 ouF_W4 ouL_W4 oG_W4 oH_W4 acc_W4
  have oI_u2 := hidP (OI.out.mono (B' := w.heap.size + 3) (by have := as_W1.out; have := sz_W1.out; have := as_W2.out; have := sz_W2.out; have := as_W3.out; have := sz_W3.out; have := Wz.out; have := sz_u1.out; have := sz_W4.out; have := sz_u2.out; omega))
  clear OI
  go_wp2_with fail
  have ou0_W5 : (((u2.setCell ⟨(w.heap.size + 2), 2, none⟩ (.slice (some ⟨i, 0, none⟩) nl nl)).setCell ⟨(w.heap.size + 2), 3, none⟩ (.int .i64 T)).setCell ⟨(w.heap.size + 2), 4, none⟩ (.int .i64 N)).cell? ⟨(w.heap.size + 2), 0, none⟩ = some (.slice (some ⟨g, 0, none⟩) np np) := by simp [go_sem, ou0_u2]
  have ou1_W5 : (((u2.setCell ⟨(w.heap.size + 2), 2, none⟩ (.slice (some ⟨i, 0, none⟩) nl nl)).setCell ⟨(w.heap.size + 2), 3, none⟩ (.int .i64 T)).setCell ⟨(w.heap.size + 2), 4, none⟩ (.int .i64 N)).cell? ⟨(w.heap.size + 2), 1, none⟩ = some (.slice (some ⟨h, 0, none⟩) nb nb) := by simp [go_sem, ou1_u2]
  have ou2_W5 : (((u2.setCell ⟨(w.heap.size + 2), 2, none⟩ (.slice (some ⟨i, 0, none⟩) nl nl)).setCell ⟨(w.heap.size + 2), 3, none⟩ (.int .i64 T)).setCell ⟨(w.heap.size + 2), 4, none⟩ (.int .i64 N)).cell? ⟨(w.heap.size + 2), 2, none⟩ = some (.slice (some ⟨i, 0, none⟩) nl nl) := by simp [go_sem, ou2_u2]
  have ou3_W5 : (((u2.setCell ⟨(w.heap.size + 2), 2, none⟩ (.slice (some ⟨i, 0, none⟩) nl nl)).setCell ⟨(w.heap.size + 2), 3, none⟩ (.int .i64 T)).setCell ⟨(w.heap.size + 2), 4, none⟩ (.int .i64 N)).cell? ⟨(w.heap.size + 2), 3, none⟩ = some (.int .i64 T) := by simp [go_sem, ou3_u2]
  have ou4_W5 : (((u2.setCell ⟨(w.heap.size + 2), 2, none⟩ (.slice (some ⟨i, 0, none⟩) nl nl)).setCell ⟨(w.heap.size + 2), 3, none⟩ (.int .i64 T)).setCell ⟨(w.heap.size + 2), 4, none⟩ (.int .i64 N)).cell? ⟨(w.heap.size + 2), 4, none⟩ = some (.int .i64 N) := by simp [go_sem, ou4_u2]
  have ou5_W5 : (((u2.setCell ⟨(w.heap.size + 2), 2, none⟩ (.slice (some ⟨i, 0, none⟩) nl nl)).setCell ⟨(w.heap.size + 2), 3, none⟩ (.int .i64 T)).setCell ⟨(w.heap.size + 2), 4, none⟩ (.int .i64 N)).cell? ⟨(w.heap.size + 2), 5, none⟩ = some (.slice none 0 0) := by simp [go_sem, ou5_u2]
  have ou6_W5 : (((u2.setCell ⟨(w.heap.size + 2), 2, none⟩ (.slice (some ⟨i, 0, none⟩) nl nl)).setCell ⟨(w.heap.size + 2), 3, none⟩ (.int .i64 T)).setCell ⟨(w.heap.size + 2), 4, none⟩ (.int .i64 N)).cell? ⟨(w.heap.size + 2), 6, none⟩ = some (.int .i64 0) := by simp [go_sem, ou6_u2]
  have ou7_W5 : (((u2.setCell ⟨(w.heap.size + 2), 2, none⟩ (.slice (some ⟨i, 0, none⟩) nl nl)).setCell ⟨(w.heap.size + 2), 3, none⟩ (.int .i64 T)).setCell ⟨(w.heap.size + 2), 4, none⟩ (.int .i64 N)).cell? ⟨(w.heap.size + 2), 7, none⟩ = some (.int .i64 0) := by simp [go_sem, ou7_u2]
  have la0_W5 : (((u2.setCell ⟨(w.heap.size + 2), 2, none⟩ (.slice (some ⟨i, 0, none⟩) nl nl)).setCell ⟨(w.heap.size + 2), 3, none⟩ (.int .i64 T)).setCell ⟨(w.heap.size + 2), 4, none⟩ (.int .i64 N)).cell? ⟨w.heap.size, 0, none⟩ = some (.slice ap np cp) := cell_set1 (cell_set1 (cell_set1 (la0_u2) (by omega)) (by omega)) (by omega)
  have la1_W5 : (((u2.setCell ⟨(w.heap.size + 2), 2, none⟩ (.slice (some ⟨i, 0, none⟩) nl nl)).setCell ⟨(w.heap.size + 2), 3, none⟩ (.int .i64 T)).setCell ⟨(w.heap.size + 2), 4, none⟩ (.int .i64 N)).cell? ⟨w.heap.size, 1, none⟩ = some (.slice ab nb cb) := cell_set1 (cell_set1 (cell_set1 (la1_u2) (by omega)) (by omega)) (by omega)
  have la2_W5 : (((u2.setCell ⟨(w.heap.size + 2), 2, none⟩ (.slice (some ⟨i, 0, none⟩) nl nl)).setCell ⟨(w.heap.size + 2), 3, none⟩ (.int .i64 T)).setCell ⟨(w.heap.size + 2), 4, none⟩ (.int .i64 N)).cell? ⟨w.heap.size, 2, none⟩ = some (.slice al nl cl) := cell_set1 (cell_set1 (cell_set1 (la2_u2) (by omega)) (by omega)) (by omega)
  have la3_W5 : (((u2.setCell ⟨(w.heap.size + 2), 2, none⟩ (.slice (some ⟨i, 0, none⟩) nl nl)).setCell ⟨(w.heap.size + 2), 3, none⟩ (.int .i64 T)).setCell ⟨(w.heap.size + 2), 4, none⟩ (.int .i64 N)).cell? ⟨w.heap.size, 3, none⟩ = some (.int .i64 T) := cell_set1 (cell_set1 (cell_set1 (la3_u2) (by omega)) (by omega)) (by omega)
  have la4_W5 : (((u2.setCell ⟨(w.heap.size + 2), 2, none⟩ (.slice (some ⟨i, 0, none⟩) nl nl)).setCell ⟨(w.heap.size + 2), 3, none⟩ (.int .i64 T)).setCell ⟨(w.heap.size + 2), 4, none⟩ (.int .i64 N)).cell? ⟨w.heap.size, 4, none⟩ = some (.int .i64 N) := cell_set1 (cell_set1 (cell_set1 (la4_u2) (by omega)) (by omega)) (by omega)
  have la5_W5 : (((u2.setCell ⟨(w.heap.size + 2), 2, none⟩ (.slice (some ⟨i, 0, none⟩) nl nl)).setCell ⟨(w.heap.size + 2), 3, none⟩ (.int .i64 T)).setCell ⟨(w.heap.size + 2), 4, none⟩ (.int .i64 N)).cell? ⟨w.heap.size, 5, none⟩ = some (.slice aS ns cs) := cell_set1 (cell_set1 (cell_set1 (la5_u2) (by omega)) (by omega)) (by omega)
  have la6_W5 : (((u2.setCell ⟨(w.heap.size + 2), 2, none⟩ (.slice (some ⟨i, 0, none⟩) nl nl)).setCell ⟨(w.heap.size + 2), 3, none⟩ (.int .i64 T)).setCell ⟨(w.heap.size + 2), 4, none⟩ (.int .i64 N)).cell? ⟨w.heap.size, 6, none⟩ = some (.int .i64 X) := cell_set1 (cell_set1 (cell_set1 (la6_u2) (by omega)) (by omega)) (by omega)
  have la7_W5 : (((u2.setCell ⟨(w.heap.size + 2), 2, none⟩ (.slice (some ⟨i, 0, none⟩) nl nl)).setCell ⟨(w.heap.size + 2), 3, none⟩ (.int .i64 T)).setCell ⟨(w.heap.size + 2), 4, none⟩ (.int .i64 N)).cell? ⟨w.heap.size, 7, none⟩ = some (.int .i64 C) := cell_set1 (cell_set1 (cell_set1 (la7_u2) (by omega)) (by omega)) (by omega)
  have laF_W5 : ∀ o, (((u2.setCell ⟨(w.heap.size + 2), 2, none⟩ (.slice (some ⟨i, 0, none⟩) nl nl)).setCell ⟨(w.heap.size + 2), 3, none⟩ (.int .i64 T)).setCell ⟨(w.heap.size + 2), 4, none⟩ (.int .i64 N)).frozen? ⟨w.heap.size, o, none⟩ = false := fun o => frz_set1 (frz_set1 (frz_set1 ((laF_u2 o))))
  have laL_W5 : w.heap.size < (((u2.setCell ⟨(w.heap.size + 2), 2, none⟩ (.slice (some ⟨i, 0, none⟩) nl nl)).setCell ⟨(w.heap.size + 2), 3, none⟩ (.int .i64 T)).setCell ⟨(w.heap.size + 2), 4, none⟩ (.int .i64 N)).heap.size := by simpa using laL_u2
  have re0_W5 : (((u2.setCell ⟨(w.heap.size + 2), 2, none⟩ (.slice (some ⟨i, 0, none⟩) nl nl)).setCell ⟨(w.heap.size + 2), 3, none⟩ (.int .i64 T)).setCell ⟨(w.heap.size + 2), 4, none⟩ (.int .i64 N)).cell? ⟨(w.heap.size + 1), 0, none⟩ = some (.slice none 0 0) := cell_set1 (cell_set1 (cell_set1 (re0_u2) (by omega)) (by omega)) (by omega)
  have re1_W5 : (((u2.setCell ⟨(w.heap.size + 2), 2, none⟩ (.slice (some ⟨i, 0, none⟩) nl nl)).setCell ⟨(w.heap.size + 2), 3, none⟩ (.int .i64 T)).setCell ⟨(w.heap.size + 2), 4, none⟩ (.int .i64 N)).cell? ⟨(w.heap.size + 1), 1, none⟩ = some (.slice none 0 0) := cell_set1 (cell_set1 (cell_set1 (re1_u2) (by omega)) (by omega)) (by omega)
  have re2_W5 : (((u2.setCell ⟨(w.heap.size + 2), 2, none⟩ (.slice (some ⟨i, 0, none⟩) nl nl)).setCell ⟨(w.heap.size + 2), 3, none⟩ (.int .i64 T)).setCell ⟨(w.heap.size + 2), 4, none⟩ (.int .i64 N)).cell? ⟨(w.heap.size + 1), 2, none⟩ = some (.slice none 0 0) := cell_set1 (cell_set1 (cell_set1 (re2_u2) (by omega)) (by omega)) (by omega)
  have re3_W5 : (((u2.setCell ⟨(w.heap.size + 2), 2, none⟩ (.slice (some ⟨i, 0, none⟩) nl nl)).setCell ⟨(w.heap.size + 2), 3, none⟩ (.int .i64 T)).setCell ⟨(w.heap.size + 2), 4, none⟩ (.int .i64 N)).cell? ⟨(w.heap.size + 1), 3, none⟩ = some (.int .i64 0) := cell_set1 (cell_set1 (cell_set1 (re3_u2) (by omega)) (by omega)) (by omega)
  have re4_W5 : (((u2.setCell ⟨(w.heap.size + 2), 2, none⟩ (.slice (some ⟨i, 0, none⟩) nl nl)).setCell ⟨(w.heap.size + 2), 3, none⟩ (.int .i64 T)).setCell ⟨(w.heap.size + 2), 4, none⟩ (.int .i64 N)).cell? ⟨(w.heap.size + 1), 4, none⟩ = some (.int .i64 0) := cell_set1 (cell_set1 (cell_set1 (re4_u2) (by omega)) (by omega)) (by omega)
  have re5_W5 : (((u2.setCell ⟨(w.heap.size + 2), 2, none⟩ (.slice (some ⟨i, 0, none⟩) nl nl)).setCell ⟨(w.heap.size + 2), 3, none⟩ (.int .i64 T)).setCell ⟨(w.heap.size + 2), 4, none⟩ (.int .i64 N)).cell? ⟨(w.heap.size + 1), 5, none⟩ = some (.slice none 0 0) := cell_set1 (cell_set1 (cell_set1 (re5_u2) (by omega)) (by omega)) (by omega)
  have re6_W5 : (((u2.setCell ⟨(w.heap.size + 2), 2, none⟩ (.slice (some ⟨i, 0, none⟩) nl nl)).setCell ⟨(w.heap.size + 2), 3, none⟩ (.int .i64 T)).setCell ⟨(w.heap.size + 2), 4, none⟩ (.int .i64 N)).cell? ⟨(w.heap.size + 1), 6, none⟩ = some (.int .i64 0) := cell_set1 (cell_set1 (cell_set1 (re6_u2) (by omega)) (by omega)) (by omega)
  have re7_W5 : (((u2.setCell ⟨(w.heap.size + 2), 2, none⟩ (.slice (some ⟨i, 0, none⟩) nl nl)).setCell ⟨(w.heap.size + 2), 3, none⟩ (.int .i64 T)).setCell ⟨(w.heap.size + 2), 4, none⟩ (.int .i64 N)).cell? ⟨(w.heap.size + 1), 7, none⟩ = some (.int .i64 0) := cell_set1 (cell_set1 (cell_set1 (re7_u2) (by omega)) (by omega)) (by omega)
  have reF_W5 : ∀ o, (((u2.setCell ⟨(w.heap.size + 2), 2, none⟩ (.slice (some ⟨i, 0, none⟩) nl nl)).setCell ⟨(w.heap.size + 2), 3, none⟩ (.int .i64 T)).setCell ⟨(w.heap.size + 2), 4, none⟩ (.int .i64 N)).frozen? ⟨(w.heap.size + 1), o, none⟩ = false := fun o => frz_set1 (frz_set1 (frz_set1 ((reF_u2 o))))
  have reL_W5 : (w.heap.size + 1) < (((u2.setCell ⟨(w.heap.size + 2), 2, none⟩ (.slice (some ⟨i, 0, none⟩) nl nl)).setCell ⟨(w.heap.size + 2), 3, none⟩ (.int .i64 T)).setCell ⟨(w.heap.size + 2), 4, none⟩ (.int .i64 N)).heap.size := by simpa using reL_u2
  have ouF_W5 : ∀ o, (((u2.setCell ⟨(w.heap.size + 2), 2, none⟩ (.slice (some ⟨i, 0, none⟩) nl nl)).setCell ⟨(w.heap.size + 2), 3, none⟩ (.int .i64 T)).setCell ⟨(w.heap.size + 2), 4, none⟩ (.int .i64 N)).frozen? ⟨(w.heap.size + 2), o, none⟩ = false := fun o => frz_set1 (frz_set1 (frz_set1 ((ouF_u2 o))))
  have ouL_W5 : (w.heap.size + 2) < (((u2.setCell ⟨(w.heap.size + 2), 2, none⟩ (.slice (some ⟨i, 0, none⟩) nl nl)).setCell ⟨(w.heap.size + 2), 3, none⟩ (.int .i64 T)).setCell ⟨(w.heap.size + 2), 4, none⟩ (.int .i64 N)).heap.size := by simpa using ouL_u2
  have oG_W5 : Hid (OwnG KPl 86 (((u2.setCell ⟨(w.heap.size + 2), 2, none⟩ (.slice (some ⟨i, 0, none⟩) nl nl)).setCell ⟨(w.heap.size + 2), 3, none⟩ (.int .i64 T)).setCell ⟨(w.heap.size + 2), 4, none⟩ (.int .i64 N)) (w.heap.size + 3) (.slice (some ⟨g, 0, none⟩) np np) (ps)) := hidP (OwnG.grown (OwnG.grown (OwnG.grown (oG_u2.out) (grown_cellG _ _ _ _) (OwnG.ne_of oG_u2.out (by omega))) (grown_cellG _ _ _ _) (OwnG.ne_of oG_u2.out (by omega))) (grown_cellG _ _ _ _) (OwnG.ne_of oG_u2.out (by omega)))
  have oH_W5 : Hid (OwnG KBk 67 (((u2.setCell ⟨(w.heap.size + 2), 2, none⟩ (.slice (some ⟨i, 0, none⟩) nl nl)).setCell ⟨(w.heap.size + 2), 3, none⟩ (.int .i64 T)).setCell ⟨(w.heap.size + 2), 4, none⟩ (.int .i64 N)) (w.heap.size + 3) (.slice (some ⟨h, 0, none⟩) nb nb) (bs)) := hidP (OwnG.grown (OwnG.grown (OwnG.grown (oH_u2.out) (grown_cellG _ _ _ _) (OwnG.ne_of oH_u2.out (by omega))) (grown_cellG _ _ _ _) (OwnG.ne_of oH_u2.out (by omega))) (grown_cellG _ _ _ _) (OwnG.ne_of oH_u2.out (by omega)))
  have oI_W5 : Hid (OwnG KLs 71 (((u2.setCell ⟨(w.heap.size + 2), 2, none⟩ (.slice (some ⟨i, 0, none⟩) nl nl)).setCell ⟨(w.heap.size + 2), 3, none⟩ (.int .i64 T)).setCell ⟨(w.heap.size + 2), 4, none⟩ (.int .i64 N)) (w.heap.size + 3) (.slice (some ⟨i, 0, none⟩) nl nl) (ls)) := hidP (OwnG.grown (OwnG.grown (OwnG.grown (oI_u2.out) (grown_cellG _ _ _ _) (OwnG.ne_of oI_u2.out (by omega))) (grown_cellG _ _ _ _) (OwnG.ne_of oI_u2.out (by omega))) (grown_cellG _ _ _ _) (OwnG.ne_of oI_u2.out (by omega)))
  have acc_W5 : Hid (Below w.heap.size w (((u2.setCell ⟨(w.heap.size + 2), 2, none⟩ (.slice (some ⟨i, 0, none⟩) nl nl)).setCell ⟨(w.heap.size + 2), 3, none⟩ (.int .i64 T)).setCell ⟨(w.heap.size + 2), 4, none⟩ (.int .i64 N))) := hidP (Below.setCell (Below.setCell (Below.setCell (acc_u2.out) (by try dsimp only; omega) _) (by try dsimp only; omega) _) (by try dsimp only; omega) _)
  have sz_W5 : Hid ((((u2.setCell ⟨(w.heap.size + 2), 2, none⟩ (.slice (some ⟨i, 0, none⟩) nl nl)).setCell ⟨(w.heap.size + 2), 3, none⟩ (.int .i64 T)).setCell ⟨(w.heap.size + 2), 4, none⟩ (.int .i64 N)).heap.size = u2.heap.size) := hidP (by simp)
  generalize ((u2.setCell ⟨(w.heap.size + 2), 2, none⟩ (.slice (some ⟨i, 0, none⟩) nl nl)).setCell ⟨(w.heap.size + 2), 3, none⟩ (.int .i64 T)).setCell ⟨(w.heap.size + 2), 4, none⟩ (.int .i64 N) = W5 at *
  clear ou0_u2 ou1_u2 ou2_u2 ou3_u2 ou4_u2 ou5_u2 ou6_u2 ou7_u2 la0_u2 la1_u2 la2_u2 la3_u2 la4_u2 la5_u2 la6_u2 la7_u2 laF_u2 laL_u2 re0_u2 re1_u2 re2_u2 re3_u2 re4_u2 re5_u2 re6_u2 re7_u2 reF_u2 reL_u2 ouF_u2 ouL_u2 oG_u2 oH_u2 oI_u2 acc_u2
  refine (HD.out _ acc_W5.out).mono ?_
  rintro e u3 ⟨j, rfl, oj, hb3⟩
  have OJ := hidP oj
  clear oj
  have la0_u3 := (hb3.cell laL_W5).trans la0_W5
  have la1_u3 := (hb3.cell laL_W5).trans la1_W5
  have la2_u3 := (hb3.cell laL_W5).trans la2_W5
  have la3_u3 := (hb3.cell laL_W5).trans la3_W5
  have la4_u3 := (hb3.cell laL_W5).trans la4_W5
  have la5_u3 := (hb3.cell laL_W5).trans la5_W5
  have la6_u3 := (hb3.cell laL_W5).trans la6_W5
  have la7_u3 := (hb3.cell laL_W5).trans la7_W5
  have laF_u3 : ∀ o, u3.frozen? ⟨w.heap.size, o, none⟩ = false := fun o => (hb3.frozen laL_W5).trans (laF_W5 o)
  have laL_u3 : w.heap.size < u3.heap.size := Nat.lt_of_lt_of_le laL_W5 hb3.size
  have re0_u3 := (hb3.cell reL_W5).trans re0_W5
  have re1_u3 := (hb3.cell reL_W5).trans re1_W5
  have re2_u3 := (hb3.cell reL_W5).trans re2_W5
  have re3_u3 := (hb3.cell reL_W5).trans re3_W5
  have re4_u3 := (hb3.cell reL_W5).trans re4_W5
  have re5_u3 := (hb3.cell reL_W5).trans re5_W5
  have re6_u3 := (hb3.cell reL_W5).trans re6_W5
  have re7_u3 := (hb3.cell reL_W5).trans re7_W5
  have reF_u3 : ∀ o, u3.frozen? ⟨(w.heap.size + 1), o, none⟩ = false := fun o => (hb3.frozen reL_W5).trans (reF_W5 o)
  have reL_u3 : (w.heap.size + 1) < u3.heap.size := Nat.lt_of_lt_of_le reL_W5 hb3.size
  have ou0_u3 := (hb3.cell ouL_W5).trans ou0_W5
  have ou1_u3 := (hb3.cell ouL_W5).trans ou1_W5
  have ou2_u3 := (hb3.cell ouL_W5).trans ou2_W5
  have ou3_u3 := (hb3.cell ouL_W5).trans ou3_W5
  have ou4_u3 := (hb3.cell ouL_W5).trans ou4_W5
  have ou5_u3 := (hb3.cell ouL_W5).trans ou5_W5
  have ou6_u3 := (hb3.cell ouL_W5).trans ou6_W5
  have ou7_u3 := (hb3.cell ouL_W5).trans ou7_W5
  have ouF_u3 : ∀ o, u3.frozen? ⟨(w.heap.size + 2), o, none⟩ = false := fun o => (hb3.frozen ouL_W5).trans (ouF_W5 o)
  have ouL_u3 : (w.heap.size + 2) < u3.heap.size := Nat.lt_of_lt_of_le ouL_W5 hb3.size
  have oG_u3 := hidP (OwnG.later oG_W5.out hb3)
  have oH_u3 := hidP (OwnG.later oH_W5.out hb3)
  have oI_u3 := hidP (OwnG.later oI_W5.out hb3)
  have acc_u3 := hidP (acc_W5.out.trans (hb3.mono acc_W5.out.size))
  have sz_u3 : Hid (W5.heap.size ≤ u3.heap.size) := hidP hb3.size
  clear hb3 la0_W5 la1_W5 la2_W5 la3_W5 la4_W5 la5_W5 la6_W5 la7_W5 laF_W5 laL_W5 re0_W5 re1_W5 re2_W5 re3_W5 re4_W5 re5_W5 re6_W5 re7_W5 reF_W5 reL_W5 ou0_W5 ou1_W5 ou2_W5 ou3_W5 ou4_W5 ou5_W5 ou6_W5 ou7_W5 ouF_W5 ouL_W5 oG_W5 oH_W5 oI_W5 acc_W5
  have oJ_u3 := hidP (OJ.out.mono (B' := w.heap.size + 3) (by have := as_W1.out; have := sz_W1.out; have := as_W2.out; have := sz_W2.out; have := as_W3.out; have := sz_W3.out; have := Wz.out; have := sz_u1.out; have := sz_W4.out; have := sz_u2.out; have := sz_W5.out; have := sz_u3.out; omega))
  clear OJ
  go_wp2_with fail
  have ou0_W6 : (((u3.setCell ⟨(w.heap.size + 2), 5, none⟩ (.slice (some ⟨j, 0, none⟩) ns ns)).setCell ⟨(w.heap.size + 2), 6, none⟩ (.int .i64 X)).setCell ⟨(w.heap.size + 2), 7, none⟩ (.int .i64 C)).cell? ⟨(w.heap.size + 2), 0, none⟩ = some (.slice (some ⟨g, 0, none⟩) np np) := by simp [go_sem, ou0_u3]
  have ou1_W6 : (((u3.setCell ⟨(w.heap.size + 2), 5, none⟩ (.slice (some ⟨j, 0, none⟩) ns ns)).setCell ⟨(w.heap.size + 2), 6, none⟩ (.int .i64 X)).setCell ⟨(w.heap.size + 2), 7, none⟩ (.int .i64 C)).cell? ⟨(w.heap.size + 2), 1, none⟩ = some (.slice (some ⟨h, 0, none⟩) nb nb) := by simp [go_sem, ou1_u3]
  have ou2_W6 : (((u3.setCell ⟨(w.heap.size + 2), 5, none⟩ (.slice (some ⟨j, 0, none⟩) ns ns)).setCell ⟨(w.heap.size + 2), 6, none⟩ (.int .i64 X)).setCell ⟨(w.heap.size + 2), 7, none⟩ (.int .i64 C)).cell? ⟨(w.heap.size + 2), 2, none⟩ = some (.slice (some ⟨i, 0, none⟩) nl nl) := by simp [go_sem, ou2_u3]
  have ou3_W6 : (((u3.setCell ⟨(w.heap.size + 2), 5, none⟩ (.slice (some ⟨j, 0, none⟩) ns ns)).setCell ⟨(w.heap.size + 2), 6, none⟩ (.int .i64 X)).setCell ⟨(w.heap.size + 2), 7, none⟩ (.int .i64 C)).cell? ⟨(w.heap.size + 2), 3, none⟩ = some (.int .i64 T) := by simp [go_sem, ou3_u3]
  have ou4_W6 : (((u3.setCell ⟨(w.heap.size + 2), 5, none⟩ (.slice (some ⟨j, 0, none⟩) ns ns)).setCell ⟨(w.heap.size + 2), 6, none⟩ (.int .i64 X)).setCell ⟨(w.heap.size + 2), 7, none⟩ (.int .i64 C)).cell? ⟨(w.heap.size + 2), 4, none⟩ = some (.int .i64 N) := by simp [go_sem, ou4_u3]
  have ou5_W6 : (((u3.setCell ⟨(w.heap.size + 2), 5, none⟩ (.slice (some ⟨j, 0, none⟩) ns ns)).setCell ⟨(w.heap.size + 2), 6, none⟩ (.int .i64 X)).setCell ⟨(w.heap.size + 2), 7, none⟩ (.int .i64 C)).cell? ⟨(w.heap.size + 2), 5, none⟩ = some (.slice (some ⟨j, 0, none⟩) ns ns) := by simp [go_sem, ou5_u3]
  have ou6_W6 : (((u3.setCell ⟨(w.heap.size + 2), 5, none⟩ (.slice (some ⟨j, 0, none⟩) ns ns)).setCell ⟨(w.heap.size + 2), 6, none⟩ (.int .i64 X)).setCell ⟨(w.heap.size + 2), 7, none⟩ (.int .i64 C)).cell? ⟨(w.heap.size + 2), 6, none⟩ = some (.int .i64 X) := by simp [go_sem, ou6_u3]
  have ou7_W6 : (((u3.setCell ⟨(w.heap.size + 2), 5, none⟩ (.slice (some ⟨j, 0, none⟩) ns ns)).setCell ⟨(w.heap.size + 2), 6, none⟩ (.int .i64 X)).setCell ⟨(w.heap.size + 2), 7, none⟩ (.int .i64 C)).cell? ⟨(w.heap.size + 2), 7, none⟩ = some (.int .i64 C) := by simp [go_sem, ou7_u3]
  have la0_W6 : (((u3.setCell ⟨(w.heap.size + 2), 5, none⟩ (.slice (some ⟨j, 0, none⟩) ns ns)).setCell ⟨(w.heap.size + 2), 6, none⟩ (.int .i64 X)).setCell ⟨(w.heap.size + 2), 7, none⟩ (.int .i64 C)).cell? ⟨w.heap.size, 0, none⟩ = some (.slice ap np cp) := cell_set1 (cell_set1 (cell_set1 (la0_u3) (by omega)) (by omega)) (by omega)
  have la1_W6 : (((u3.setCell ⟨(w.heap.size + 2), 5, none⟩ (.slice (some ⟨j, 0, none⟩) ns ns)).setCell ⟨(w.heap.size + 2), 6, none⟩ (.int .i64 X)).setCell ⟨(w.heap.size + 2), 7, none⟩ (.int .i64 C)).cell? ⟨w.heap.size, 1, none⟩ = some (.slice ab nb cb) := cell_set1 (cell_set1 (cell_set1 (la1_u3) (by omega)) (by omega)) (by omega)
  have la2_W6 : (((u3.setCell ⟨(w.heap.size + 2), 5, none⟩ (.slice (some ⟨j, 0, none⟩) ns ns)).setCell ⟨(w.heap.size + 2), 6, none⟩ (.int .i64 X)).setCell ⟨(w.heap.size + 2), 7, none⟩ (.int .i64 C)).cell? ⟨w.heap.size, 2, none⟩ = some (.slice al nl cl) := cell_set1 (cell_set1 (cell_set1 (la2_u3) (by omega)) (by omega)) (by omega)
  have la3_W6 : (((u3.setCell ⟨(w.heap.size + 2), 5, none⟩ (.slice (some ⟨j, 0, none⟩) ns ns)).setCell ⟨(w.heap.size + 2), 6, none⟩ (.int .i64 X)).setCell ⟨(w.heap.size + 2), 7, none⟩ (.int .i64 C)).cell? ⟨w.heap.size, 3, none⟩ = some (.int .i64 T) := cell_set1 (cell_set1 (cell_set1 (la3_u3) (by omega)) (by omega)) (by omega)
  have la4_W6 : (((u3.setCell ⟨(w.heap.size + 2), 5, none⟩ (.slice (some ⟨j, 0, none⟩) ns ns)).setCell ⟨(w.heap.size + 2), 6, none⟩ (.int .i64 X)).setCell ⟨(w.heap.size + 2), 7, none⟩ (.int .i64 C)).cell? ⟨w.heap.size, 4, none⟩ = some (.int .i64 N) := cell_set1 (cell_set1 (cell_set1 (la4_u3) (by omega)) (by omega)) (by omega)
  have la5_W6 : (((u3.setCell ⟨(w.heap.size + 2), 5, none⟩ (.slice (some ⟨j, 0, none⟩) ns ns)).setCell ⟨(w.heap.size + 2), 6, none⟩ (.int .i64 X)).setCell ⟨(w.heap.size + 2), 7, none⟩ (.int .i64 C)).cell? ⟨w.heap.size, 5, none⟩ = some (.slice aS ns cs) := cell_set1 (cell_set1 (cell_set1 (la5_u3) (by omega)) (by omega)) (by omega)
  have la6_W6 : (((u3.setCell ⟨(w.heap.size + 2), 5, none⟩ (.slice (some ⟨j, 0, none⟩) ns ns)).setCell ⟨(w.heap.size + 2), 6, none⟩ (.int .i64 X)).setCell ⟨(w.heap.size + 2), 7, none⟩ (.int .i64 C)).cell? ⟨w.heap.size, 6, none⟩ = some (.int .i64 X) := cell_set1 (cell_set1 (cell_set1 (la6_u3) (by omega)) (by omega)) (by omega)
  have la7_W6 : (((u3.setCell ⟨(w.heap.size + 2), 5, none⟩ (.slice (some ⟨j, 0, none⟩) ns ns)).setCell ⟨(w.heap.size + 2), 6, none⟩ (.int .i64 X)).setCell ⟨(w.heap.size + 2), 7, none⟩ (.int .i64 C)).cell? ⟨w.heap.size, 7, none⟩ = some (.int .i64 C) := cell_set1 (cell_set1 (cell_set1 (la7_u3) (by omega)) (by omega)) (by omega)
  have laF_W6 : ∀ o, (((u3.setCell ⟨(w.heap.size + 2), 5, none⟩ (.slice (some ⟨j, 0, none⟩) ns ns)).setCell ⟨(w.heap.size + 2), 6, none⟩ (.int .i64 X)).setCell ⟨(w.heap.size + 2), 7, none⟩ (.int .i64 C)).frozen? ⟨w.heap.size, o, none⟩ = false := fun o => frz_set1 (frz_set1 (frz_set1 ((laF_u3 o))))
  have laL_W6 : w.heap.size < (((u3.setCell ⟨(w.heap.size + 2), 5, none⟩ (.slice (some ⟨j, 0, none⟩) ns ns)).setCell ⟨(w.heap.size + 2), 6, none⟩ (.int .i64 X)).setCell ⟨(w.heap.size + 2), 7, none⟩ (.int .i64 C)).heap.size := by simpa using laL_u3
  have re0_W6 : (((u3.setCell ⟨(w.heap.size + 2), 5, none⟩ (.slice (some ⟨j, 0, none⟩) ns ns)).setCell ⟨(w.heap.size + 2), 6, none⟩ (.int .i64 X)).setCell ⟨(w.heap.size + 2), 7, none⟩ (.int .i64 C)).cell? ⟨(w.heap.size + 1), 0, none⟩ = some (.slice none 0 0) := cell_set1 (cell_set1 (cell_set1 (re0_u3) (by omega)) (by omega)) (by omega)
  have re1_W6 : (((u3.setCell ⟨(w.heap.size + 2), 5, none⟩ (.slice (some ⟨j, 0, none⟩) ns ns)).setCell ⟨(w.heap.size + 2), 6, none⟩ (.int .i64 X)).setCell ⟨(w.heap.size + 2), 7, none⟩ (.int .i64 C)).cell? ⟨(w.heap.size + 1), 1, none⟩ = some (.slice none 0 0) := cell_set1 (cell_set1 (cell_set1 (re1_u3) (by omega)) (by omega)) (by omega)
  have re2_W6 : (((u3.setCell ⟨(w.heap.size + 2), 5, none⟩ (.slice (some ⟨j, 0, none⟩) ns ns)).setCell ⟨(w.heap.size + 2), 6, none⟩ (.int .i64 X)).setCell ⟨(w.heap.size + 2), 7, none⟩ (.int .i64 C)).cell? ⟨(w.heap.size + 1), 2, none⟩ = some (.slice none 0 0) := cell_set1 (cell_set1 (cell_set1 (re2_u3) (by omega)) (by omega)) (by omega)
  have re3_W6 : (((u3.setCell ⟨(w.heap.size + 2), 5, none⟩ (.slice (some ⟨j, 0, none⟩) ns ns)).setCell ⟨(w.heap.size + 2), 6, none⟩ (.int .i64 X)).setCell ⟨(w.heap.size + 2), 7, none⟩ (.int .i64 C)).cell? ⟨(w.heap.size + 1), 3, none⟩ = some (.int .i64 0) := cell_set1 (cell_set1 (cell_set1 (re3_u3) (by omega)) (by omega)) (by omega)
  have re4_W6 : (((u3.setCell ⟨(w.heap.size + 2), 5, none⟩ (.slice (some ⟨j, 0, none⟩) ns ns)).setCell ⟨(w.heap.size + 2), 6, none⟩ (.int .i64 X)).setCell ⟨(w.heap.size + 2), 7, none⟩ (.int .i64 C)).cell? ⟨(w.heap.size + 1), 4, none⟩ = some (.int .i64 0) := cell_set1 (cell_set1 (cell_set1 (re4_u3) (by omega)) (by omega)) (by omega)
  have re5_W6 : (((u3.setCell ⟨(w.heap.size + 2), 5, none⟩ (.slice (some ⟨j, 0, none⟩) ns ns)).setCell ⟨(w.heap.size + 2), 6, none⟩ (.int .i64 X)).setCell ⟨(w.heap.size + 2), 7, none⟩ (.int .i64 C)).cell? ⟨(w.heap.size + 1), 5, none⟩ = some (.slice none 0 0) := cell_set1 (cell_set1 (cell_set1 (re5_u3) (by omega)) (by omega)) (by omega)
  have re6_W6 : (((u3.setCell ⟨(w.heap.size + 2), 5, none⟩ (.slice (some ⟨j, 0, none⟩) ns ns)).setCell ⟨(w.heap.size + 2), 6, none⟩ (.int .i64 X)).setCell ⟨(w.heap.size + 2), 7, none⟩ (.int .i64 C)).cell? ⟨(w.heap.size + 1), 6, none⟩ = some (.int .i64 0) := cell_set1 (cell_set1 (cell_set1 (re6_u3) (by omega)) (by omega)) (by omega)
  have re7_W6 : (((u3.setCell ⟨(w.heap.size + 2), 5, none⟩ (.slice (some ⟨j, 0, none⟩) ns ns)).setCell ⟨(w.heap.size + 2), 6, none⟩ (.int .i64 X)).setCell ⟨(w.heap.size + 2), 7, none⟩ (.int .i64 C)).cell? ⟨(w.heap.size + 1), 7, none⟩ = some (.int .i64 0) := cell_set1 (cell_set1 (cell_set1 (re7_u3) (by omega)) (by omega)) (by omega)
  have reF_W6 : ∀ o, (((u3.setCell ⟨(w.heap.size + 2), 5, none⟩ (.slice (some ⟨j, 0, none⟩) ns ns)).setCell ⟨(w.heap.size + 2), 6, none⟩ (.int .i64 X)).setCell ⟨(w.heap.size + 2), 7, none⟩ (.int .i64 C)).frozen? ⟨(w.heap.size + 1), o, none⟩ = false := fun o => frz_set1 (frz_set1 (frz_set1 ((reF_u3 o))))
  have reL_W6 : (w.heap.size + 1) < (((u3.setCell ⟨(w.heap.size + 2), 5, none⟩ (.slice (some ⟨j, 0, none⟩) ns ns)).setCell ⟨(w.heap.size + 2), 6, none⟩ (.int .i64 X)).setCell ⟨(w.heap.size + 2), 7, none⟩ (.int .i64 C)).heap.size := by simpa using reL_u3
  have ouF_W6 : ∀ o, (((u3.setCell ⟨(w.heap.size + 2), 5, none⟩ (.slice (some ⟨j, 0, none⟩) ns ns)).setCell ⟨(w.heap.size + 2), 6, none⟩ (.int .i64 X)).setCell ⟨(w.heap.size + 2), 7, none⟩ (.int .i64 C)).frozen? ⟨(w.heap.size + 2), o, none⟩ = false := fun o => frz_set1 (frz_set1 (frz_set1 ((ouF_u3 o))))
  have ouL_W6 : (w.heap.size + 2) < (((u3.setCell ⟨(w.heap.size + 2), 5, none⟩ (.slice (some ⟨j, 0, none⟩) ns ns)).setCell ⟨(w.heap.size + 2), 6, none⟩ (.int .i64 X)).setCell ⟨(w.heap.size + 2), 7, none⟩ (.int .i64 C)).heap.size := by simpa using ouL_u3
  have oG_W6 : Hid (OwnG KPl 86 (((u3.setCell ⟨(w.heap.size + 2), 5, none⟩ (.slice (some ⟨j, 0, none⟩) ns ns)).setCell ⟨(w.heap.size + 2), 6, none⟩ (.int .i64 X)).setCell ⟨(w.heap.size + 2), 7, none⟩ (.int .i64 C)) (w.heap.size + 3) (.slice (some ⟨g, 0, none⟩) np np) (ps)) := hidP (OwnG.grown (OwnG.grown (OwnG.grown (oG_u3.out) (grown_cellG _ _ _ _) (OwnG.ne_of oG_u3.out (by omega))) (grown_cellG _ _ _ _) (OwnG.ne_of oG_u3.out (by omega))) (grown_cellG _ _ _ _) (OwnG.ne_of oG_u3.out (by omega)))
  have oH_W6 : Hid (OwnG KBk 67 (((u3.setCell ⟨(w.heap.size + 2), 5, none⟩ (.slice (some ⟨j, 0, none⟩) ns ns)).setCell ⟨(w.heap.size + 2), 6, none⟩ (.int .i64 X)).setCell ⟨(w.heap.size + 2), 7, none⟩ (.int .i64 C)) (w.heap.size + 3) (.slice (some ⟨h, 0, none⟩) nb nb) (bs)) := hidP (OwnG.grown (OwnG.grown (OwnG.grown (oH_u3.out) (grown_cellG _ _ _ _) (OwnG.ne_of oH_u3.out (by omega))) (grown_cellG _ _ _ _) (OwnG.ne_of oH_u3.out (by omega))) (grown_cellG _ _ _ _) (OwnG.ne_of oH_u3.out (by omega)))
  have oI_W6 : Hid (OwnG KLs 71 (((u3.setCell ⟨(w.heap.size + 2), 5, none⟩ (.slice (some ⟨j, 0, none⟩) ns ns)).setCell ⟨(w.heap.size + 2), 6, none⟩ (.int .i64 X)).setCell ⟨(w.heap.size + 2), 7, none⟩ (.int .i64 C)) (w.heap.size + 3) (.slice (some ⟨i, 0, none⟩) nl nl) (ls)) := hidP (OwnG.grown (OwnG.grown (OwnG.grown (oI_u3.out) (grown_cellG _ _ _ _) (OwnG.ne_of oI_u3.out (by omega))) (grown_cellG _ _ _ _) (OwnG.ne_of oI_u3.out (by omega))) (grown_cellG _ _ _ _) (OwnG.ne_of oI_u3.out (by omega)))
  have oJ_W6 : Hid (OwnG KSs 96 (((u3.setCell ⟨(w.heap.size + 2), 5, none⟩ (.slice (some ⟨j, 0, none⟩) ns ns)).setCell ⟨(w.heap.size + 2), 6, none⟩ (.int .i64 X)).setCell ⟨(w.heap.size + 2), 7, none⟩ (.int .i64 C)) (w.heap.size + 3) (.slice (some ⟨j, 0, none⟩) ns ns) (ss)) := hidP (OwnG.grown (OwnG.grown (OwnG.grown (oJ_u3.out) (grown_cellG _ _ _ _) (OwnG.ne_of oJ_u3.out (by omega))) (grown_cellG _ _ _ _) (OwnG.ne_of oJ_u3.out (by omega))) (grown_cellG _ _ _ _) (OwnG.ne_of oJ_u3.out (by omega)))
  have acc_W6 : Hid (Below w.heap.size w (((u3.setCell ⟨(w.heap.size + 2), 5, none⟩ (.slice (some ⟨j, 0, none⟩) ns ns)).setCell ⟨(w.heap.size + 2), 6, none⟩ (.int .i64 X)).setCell ⟨(w.heap.size + 2), 7, none⟩ (.int .i64 C))) := hidP (Below.setCell (Below.setCell (Below.setCell (acc_u3.out) (by try dsimp only; omega) _) (by try dsimp only; omega) _) (by try dsimp only; omega) _)
  have sz_W6 : Hid ((((u3.setCell ⟨(w.heap.size + 2), 5, none⟩ (.slice (some ⟨j, 0, none⟩) ns ns)).setCell ⟨(w.heap.size + 2), 6, none⟩ (.int .i64 X)).setCell ⟨(w.heap.size + 2), 7, none⟩ (.int .i64 C)).heap.size = u3.heap.size) := hidP (by simp)
  generalize ((u3.setCell ⟨(w.heap.size + 2), 5, none⟩ (.slice (some ⟨j, 0, none⟩) ns ns)).setCell ⟨(w.heap.size + 2), 6, none⟩ (.int .i64 X)).setCell ⟨(w.heap.size + 2), 7, none⟩ (.int .i64 C) = W6 at *
  clear ou0_u3 ou1_u3 ou2_u3 ou3_u3 ou4_u3 ou5_u3 ou6_u3 ou7_u3 la0_u3 la1_u3 la2_u3 la3_u3 la4_u3 la5_u3 la6_u3 la7_u3 laF_u3 laL_u3 re0_u3 re1_u3 re2_u3 re3_u3 re4_u3 re5_u3 re6_u3 re7_u3 reF_u3 reL_u3 ouF_u3 ouL_u3 oG_u3 oH_u3 oI_u3 oJ_u3 acc_u3
  clear la0_W6 la1_W6 la2_W6 la3_W6 la4_W6 la5_W6 la6_W6 la7_W6 laF_W6 laL_W6
  clear ou0_W6 ou1_W6 ou2_W6 ou3_W6 ou4_W6 ou5_W6 ou6_W6 ou7_W6 ouF_W6 ouL_W6
  have re0_W7 : ((((((((W6.setCell ⟨(w.heap.size + 1), 0, none⟩ (.slice (some ⟨g, 0, none⟩) np np)).setCell ⟨(w.heap.size + 1), 1, none⟩ (.slice (some ⟨h, 0, none⟩) nb nb)).setCell ⟨(w.heap.size + 1), 2, none⟩ (.slice (some ⟨i, 0, none⟩) nl nl)).setCell ⟨(w.heap.size + 1), 3, none⟩ (.int .i64 T)).setCell ⟨(w.heap.size + 1), 4, none⟩ (.int .i64 N)).setCell ⟨(w.heap.size + 1), 5, none⟩ (.slice (some ⟨j, 0, none⟩) ns ns)).setCell ⟨(w.heap.size + 1), 6, none⟩ (.int .i64 X)).setCell ⟨(w.heap.size + 1), 7, none⟩ (.int .i64 C)).cell? ⟨(w.heap.size + 1), 0, none⟩ = some (.slice (some ⟨g, 0, none⟩) np np) := by simp [go_sem, re0_W6]
  have re1_W7 : ((((((((W6.setCell ⟨(w.heap.size + 1), 0, none⟩ (.slice (some ⟨g, 0, none⟩) np np)).setCell ⟨(w.heap.size + 1), 1, none⟩ (.slice (some ⟨h, 0, none⟩) nb nb)).setCell ⟨(w.heap.size + 1), 2, none⟩ (.slice (some ⟨i, 0, none⟩) nl nl)).setCell ⟨(w.heap.size + 1), 3, none⟩ (.int .i64 T)).setCell ⟨(w.heap.size + 1), 4, none⟩ (.int .i64 N)).setCell ⟨(w.heap.size + 1), 5, none⟩ (.slice (some ⟨j, 0, none⟩) ns ns)).setCell ⟨(w.heap.size + 1), 6, none⟩ (.int .i64 X)).setCell ⟨(w.heap.size + 1), 7, none⟩ (.int .i64 C)).cell? ⟨(w.heap.size + 1), 1, none⟩ = some (.slice (some ⟨h, 0, none⟩) nb nb) := by simp [go_sem, re1_W6]
  have re2_W7 : ((((((((W6.setCell ⟨(w.heap.size + 1), 0, none⟩ (.slice (some ⟨g, 0, none⟩) np np)).setCell ⟨(w.heap.size + 1), 1, none⟩ (.slice (some ⟨h, 0, none⟩) nb nb)).setCell ⟨(w.heap.size + 1), 2, none⟩ (.slice (some ⟨i, 0, none⟩) nl nl)).setCell ⟨(w.heap.size + 1), 3, none⟩ (.int .i64 T)).setCell ⟨(w.heap.size + 1), 4, none⟩ (.int .i64 N)).setCell ⟨(w.heap.size + 1), 5, none⟩ (.slice (some ⟨j, 0, none⟩) ns ns)).setCell ⟨(w.heap.size + 1), 6, none⟩ (.int .i64 X)).setCell ⟨(w.heap.size + 1), 7, none⟩ (.int .i64 C)).cell? ⟨(w.heap.size + 1), 2, none⟩ = some (.slice (some ⟨i, 0, none⟩) nl nl) := by simp [go_sem, re2_W6]
  have re3_W7 : ((((((((W6.setCell ⟨(w.heap.size + 1), 0, none⟩ (.slice (some ⟨g, 0, none⟩) np np)).setCell ⟨(w.heap.size + 1), 1, none⟩ (.slice (some ⟨h, 0, none⟩) nb nb)).setCell ⟨(w.heap.size + 1), 2, none⟩ (.slice (some ⟨i, 0, none⟩) nl nl)).setCell ⟨(w.heap.size + 1), 3, none⟩ (.int .i64 T)).setCell ⟨(w.heap.size + 1), 4, none⟩ (.int .i64 N)).setCell ⟨(w.heap.size + 1), 5, none⟩ (.slice (some ⟨j, 0, none⟩) ns ns)).setCell ⟨(w.heap.size + 1), 6, none⟩ (.int .i64 X)).setCell ⟨(w.heap.size + 1), 7, none⟩ (.int .i64 C)).cell? ⟨(w.heap.size + 1), 3, none⟩ = some (.int .i64 T) := by simp [go_sem, re3_W6]
  have re4_W7 : ((((((((W6.setCell ⟨(w.heap.size + 1), 0, none⟩ (.slice (some ⟨g, 0, none⟩) np np)).setCell ⟨(w.heap.size + 1), 1, none⟩ (.slice (some ⟨h, 0, none⟩) nb nb)).setCell ⟨(w.heap.size + 1), 2, none⟩ (.slice (some ⟨i, 0, none⟩) nl nl)).setCell ⟨(w.heap.size + 1), 3, none⟩ (.int .i64 T)).setCell ⟨(w.heap.size + 1), 4, none⟩ (.int .i64 N)).setCell ⟨(w.heap.size + 1), 5, none⟩ (.slice (some ⟨j, 0, none⟩) ns ns)).setCell ⟨(w.heap.size + 1), 6, none⟩ (.int .i64 X)).setCell ⟨(w.heap.size + 1), 7, none⟩ (.int .i64 C)).cell? ⟨(w.heap.size + 1), 4, none⟩ = some (.int .i64 N) := by simp [go_sem, re4_W6]
  have re5_W7 : ((((((((W6.setCell ⟨(w.heap.size + 1), 0, none⟩ (.slice (some ⟨g, 0, none⟩) np np)).setCell ⟨(w.heap.size + 1), 1, none⟩ (.slice (some ⟨h, 0, none⟩) nb nb)).setCell ⟨(w.heap.size + 1), 2, none⟩ (.slice (some ⟨i, 0, none⟩) nl nl)).setCell ⟨(w.heap.size + 1), 3, none⟩ (.int .i64 T)).setCell ⟨(w.heap.size + 1), 4, none⟩ (.int .i64 N)).setCell ⟨(w.heap.size + 1), 5, none⟩ (.slice (some ⟨j, 0, none⟩) ns ns)).setCell ⟨(w.heap.size + 1), 6, none⟩ (.int .i64 X)).setCell ⟨(w.heap.size + 1), 7, none⟩ (.int .i64 C)).cell? ⟨(w.heap.size + 1), 5, none⟩ = some (.slice (some ⟨j, 0, none⟩) ns ns) := by simp [go_sem, re5_W6]
  have re6_W7 : ((((((((W6.setCell ⟨(w.heap.size + 1), 0, none⟩ (.slice (some ⟨g, 0, none⟩) np np)).setCell ⟨(w.heap.size + 1), 1, none⟩ (.slice (some ⟨h, 0, none⟩) nb nb)).setCell ⟨(w.heap.size + 1), 2, none⟩ (.slice (some ⟨i, 0, none⟩) nl nl)).setCell ⟨(w.heap.size + 1), 3, none⟩ (.int .i64 T)).setCell ⟨(w.heap.size + 1), 4, none⟩ (.int .i64 N)).setCell ⟨(w.heap.size + 1), 5, none⟩ (.slice (some ⟨j, 0, none⟩) ns ns)).setCell ⟨(w.heap.size + 1), 6, none⟩ (.int .i64 X)).setCell ⟨(w.heap.size + 1), 7, none⟩ (.int .i64 C)).cell? ⟨(w.heap.size + 1), 6, none⟩ = some (.int .i64 X) := by simp [go_sem, re6_W6]
  have re7_W7 : ((((((((W6.setCell ⟨(w.heap.size + 1), 0, none⟩ (.slice (some ⟨g, 0, none⟩) np np)).setCell ⟨(w.heap.size + 1), 1, none⟩ (.slice (some ⟨h, 0, none⟩) nb nb)).setCell ⟨(w.heap.size + 1), 2, none⟩ (.slice (some ⟨i, 0, none⟩) nl nl)).setCell ⟨(w.heap.size + 1), 3, none⟩ (.int .i64 T)).setCell ⟨(w.heap.size + 1), 4, none⟩ (.int .i64 N)).setCell ⟨(w.heap.size + 1), 5, none⟩ (.slice (some ⟨j, 0, none⟩) ns ns)).setCell ⟨(w.heap.size + 1), 6, none⟩ (.int .i64 X)).setCell ⟨(w.heap.size + 1), 7, none⟩ (.int .i64 C)).cell? ⟨(w.heap.size + 1), 7, none⟩ = some (.int .i64 C) := by simp [go_sem, re7_W6]
  have reF_W7 : ∀ o, ((((((((W6.setCell ⟨(w.heap.size + 1), 0, none⟩ (.slice (some ⟨g, 0, none⟩) np np)).setCell ⟨(w.heap.size + 1), 1, none⟩ (.slice (some ⟨h, 0, none⟩) nb nb)).setCell ⟨(w.heap.size + 1), 2, none⟩ (.slice (some ⟨i, 0, none⟩) nl nl)).setCell ⟨(w.heap.size + 1), 3, none⟩ (.int .i64 T)).setCell ⟨(w.heap.size + 1), 4, none⟩ (.int .i64 N)).setCell ⟨(w.heap.size + 1), 5, none⟩ (.slice (some ⟨j, 0, none⟩) ns ns)).setCell ⟨(w.heap.size + 1), 6, none⟩ (.int .i64 X)).setCell ⟨(w.heap.size + 1), 7, none⟩ (.int .i64 C)).frozen? ⟨(w.heap.size + 1), o, none⟩ = false := fun o => frz_set1 (frz_set1 (frz_set1 (frz_set1 (frz_set1 (frz_set1 (frz_set1 (frz_set1 ((reF_W6 o)))))))))
  have reL_W7 : (w.heap.size + 1) < ((((((((W6.setCell ⟨(w.heap.size + 1), 0, none⟩ (.slice (some ⟨g, 0, none⟩) np np)).setCell ⟨(w.heap.size + 1), 1, none⟩ (.slice (some ⟨h, 0, none⟩) nb nb)).setCell ⟨(w.heap.size + 1), 2, none⟩ (.slice (some ⟨i, 0, none⟩) nl nl)).setCell ⟨(w.heap.size + 1), 3, none⟩ (.int .i64 T)).setCell ⟨(w.heap.size + 1), 4, none⟩ (.int .i64 N)).setCell ⟨(w.heap.size + 1), 5, none⟩ (.slice (some ⟨j, 0, none⟩) ns ns)).setCell ⟨(w.heap.size + 1), 6, none⟩ (.int .i64 X)).setCell ⟨(w.heap.size + 1), 7, none⟩ (.int .i64 C)).heap.size := by simpa using reL_W6
  have oG_W7 : Hid (OwnG KPl 86 ((((((((W6.setCell ⟨(w.heap.size + 1), 0, none⟩ (.slice (some ⟨g, 0, none⟩) np np)).setCell ⟨(w.heap.size + 1), 1, none⟩ (.slice (some ⟨h, 0, none⟩) nb nb)).setCell ⟨(w.heap.size + 1), 2, none⟩ (.slice (some ⟨i, 0, none⟩) nl nl)).setCell ⟨(w.heap.size + 1), 3, none⟩ (.int .i64 T)).setCell ⟨(w.heap.size + 1), 4, none⟩ (.int .i64 N)).setCell ⟨(w.heap.size + 1), 5, none⟩ (.slice (some ⟨j, 0, none⟩) ns ns)).setCell ⟨(w.heap.size + 1), 6, none⟩ (.int .i64 X)).setCell ⟨(w.heap.size + 1), 7, none⟩ (.int .i64 C)) (w.heap.size + 3) (.slice (some ⟨g, 0, none⟩) np np) (ps)) := hidP (OwnG.grown (OwnG.grown (OwnG.grown (OwnG.grown (OwnG.grown (OwnG.grown (OwnG.grown (OwnG.grown (oG_W6.out) (grown_cellG _ _ _ _) (OwnG.ne_of oG_W6.out (by omega))) (grown_cellG _ _ _ _) (OwnG.ne_of oG_W6.out (by omega))) (grown_cellG _ _ _ _) (OwnG.ne_of oG_W6.out (by omega))) (grown_cellG _ _ _ _) (OwnG.ne_of oG_W6.out (by omega))) (grown_cellG _ _ _ _) (OwnG.ne_of oG_W6.out (by omega))) (grown_cellG _ _ _ _) (OwnG.ne_of oG_W6.out (by omega))) (grown_cellG _ _ _ _) (OwnG.ne_of oG_W6.out (by omega))) (grown_cellG _ _ _ _) (OwnG.ne_of oG_W6.out (by omega)))
  have oH_W7 : Hid (OwnG KBk 67 ((((((((W6.setCell ⟨(w.heap.size + 1), 0, none⟩ (.slice (some ⟨g, 0, none⟩) np np)).setCell ⟨(w.heap.size + 1), 1, none⟩ (.slice (some ⟨h, 0, none⟩) nb nb)).setCell ⟨(w.heap.size + 1), 2, none⟩ (.slice (some ⟨i, 0, none⟩) nl nl)).setCell ⟨(w.heap.size + 1), 3, none⟩ (.int .i64 T)).setCell ⟨(w.heap.size + 1), 4, none⟩ (.int .i64 N)).setCell ⟨(w.heap.size + 1), 5, none⟩ (.slice (some ⟨j, 0, none⟩) ns ns)).setCell ⟨(w.heap.size + 1), 6, none⟩ (.int .i64 X)).setCell ⟨(w.heap.size + 1), 7, none⟩ (.int .i64 C)) (w.heap.size + 3) (.slice (some ⟨h, 0, none⟩) nb nb) (bs)) := hidP (OwnG.grown (OwnG.grown (OwnG.grown (OwnG.grown (OwnG.grown (OwnG.grown (OwnG.grown (OwnG.grown (oH_W6.out) (grown_cellG _ _ _ _) (OwnG.ne_of oH_W6.out (by omega))) (grown_cellG _ _ _ _) (OwnG.ne_of oH_W6.out (by omega))) (grown_cellG _ _ _ _) (OwnG.ne_of oH_W6.out (by omega))) (grown_cellG _ _ _ _) (OwnG.ne_of oH_W6.out (by omega))) (grown_cellG _ _ _ _) (OwnG.ne_of oH_W6.out (by omega))) (grown_cellG _ _ _ _) (OwnG.ne_of oH_W6.out (by omega))) (grown_cellG _ _ _ _) (OwnG.ne_of oH_W6.out (by omega))) (grown_cellG _ _ _ _) (OwnG.ne_of oH_W6.out (by omega)))
  have oI_W7 : Hid (OwnG KLs 71 ((((((((W6.setCell ⟨(w.heap.size + 1), 0, none⟩ (.slice (some ⟨g, 0, none⟩) np np)).setCell ⟨(w.heap.size + 1), 1, none⟩ (.slice (some ⟨h, 0, none⟩) nb nb)).setCell ⟨(w.heap.size + 1), 2, none⟩ (.slice (some ⟨i, 0, none⟩) nl nl)).setCell ⟨(w.heap.size + 1), 3, none⟩ (.int .i64 T)).setCell ⟨(w.heap.size + 1), 4, none⟩ (.int .i64 N)).setCell ⟨(w.heap.size + 1), 5, none⟩ (.slice (some ⟨j, 0, none⟩) ns ns)).setCell ⟨(w.heap.size + 1), 6, none⟩ (.int .i64 X)).setCell ⟨(w.heap.size + 1), 7, none⟩ (.int .i64 C)) (w.heap.size + 3) (.slice (some ⟨i, 0, none⟩) nl nl) (ls)) := hidP (OwnG.grown (OwnG.grown (OwnG.grown (OwnG.grown (OwnG.grown (OwnG.grown (OwnG.grown (OwnG.grown (oI_W6.out) (grown_cellG _ _ _ _) (OwnG.ne_of oI_W6.out (by omega))) (grown_cellG _ _ _ _) (OwnG.ne_of oI_W6.out (by omega))) (grown_cellG _ _ _ _) (OwnG.ne_of oI_W6.out (by omega))) (grown_cellG _ _ _ _) (OwnG.ne_of oI_W6.out (by omega))) (grown_cellG _ _ _ _) (OwnG.ne_of oI_W6.out (by omega))) (grown_cellG _ _ _ _) (OwnG.ne_of oI_W6.out (by omega))) (grown_cellG _ _ _ _) (OwnG.ne_of oI_W6.out (by omega))) (grown_cellG _ _ _ _) (OwnG.ne_of oI_W6.out (by omega)))
  have oJ_W7 : Hid (OwnG KSs 96 ((((((((W6.setCell ⟨(w.heap.size + 1), 0, none⟩ (.slice (some ⟨g, 0, none⟩) np np)).setCell ⟨(w.heap.size + 1), 1, none⟩ (.slice (some ⟨h, 0, none⟩) nb nb)).setCell ⟨(w.heap.size + 1), 2, none⟩ (.slice (some ⟨i, 0, none⟩) nl nl)).setCell ⟨(w.heap.size + 1), 3, none⟩ (.int .i64 T)).setCell ⟨(w.heap.size + 1), 4, none⟩ (.int .i64 N)).setCell ⟨(w.heap.size + 1), 5, none⟩ (.slice (some ⟨j, 0, none⟩) ns ns)).setCell ⟨(w.heap.size + 1), 6, none⟩ (.int .i64 X)).setCell ⟨(w.heap.size + 1), 7, none⟩ (.int .i64 C)) (w.heap.size + 3) (.slice (some ⟨j, 0, none⟩) ns ns) (ss)) := hidP (OwnG.grown (OwnG.grown (OwnG.grown (OwnG.grown (OwnG.grown (OwnG.grown (OwnG.grown (OwnG.grown (oJ_W6.out) (grown_cellG _ _ _ _) (OwnG.ne_of oJ_W6.out (by omega))) (grown_cellG _ _ _ _) (OwnG.ne_of oJ_W6.out (by omega))) (grown_cellG _ _ _ _) (OwnG.ne_of oJ_W6.out (by omega))) (grown_cellG _ _ _ _) (OwnG.ne_of oJ_W6.out (by omega))) (grown_cellG _ _ _ _) (OwnG.ne_of oJ_W6.out (by omega))) (grown_cellG _ _ _ _) (OwnG.ne_of oJ_W6.out (by omega))) (grown_cellG _ _ _ _) (OwnG.ne_of oJ_W6.out (by omega))) (grown_cellG _ _ _ _) (OwnG.ne_of oJ_W6.out (by omega)))
  have acc_W7 : Hid (Below w.heap.size w ((((((((W6.setCell ⟨(w.heap.size + 1), 0, none⟩ (.slice (some ⟨g, 0, none⟩) np np)).setCell ⟨(w.heap.size + 1), 1, none⟩ (.slice (some ⟨h, 0, none⟩) nb nb)).setCell ⟨(w.heap.size + 1), 2, none⟩ (.slice (some ⟨i, 0, none⟩) nl nl)).setCell ⟨(w.heap.size + 1), 3, none⟩ (.int .i64 T)).setCell ⟨(w.heap.size + 1), 4, none⟩ (.int .i64 N)).setCell ⟨(w.heap.size + 1), 5, none⟩ (.slice (some ⟨j, 0, none⟩) ns ns)).setCell ⟨(w.heap.size + 1), 6, none⟩ (.int .i64 X)).setCell ⟨(w.heap.size + 1), 7, none⟩ (.int .i64 C))) := hidP (Below.setCell (Below.setCell (Below.setCell (Below.setCell (Below.setCell (Below.setCell (Below.setCell (Below.setCell (acc_W6.out) (by try dsimp only; omega) _) (by try dsimp only; omega) _) (by try dsimp only; omega) _) (by try dsimp only; omega) _) (by try dsimp only; omega) _) (by try dsimp only; omega) _) (by try dsimp only; omega) _) (by try dsimp only; omega) _)
  have sz_W7 : Hid (((((((((W6.setCell ⟨(w.heap.size + 1), 0, none⟩ (.slice (some ⟨g, 0, none⟩) np np)).setCell ⟨(w.heap.size + 1), 1, none⟩ (.slice (some ⟨h, 0, none⟩) nb nb)).setCell ⟨(w.heap.size + 1), 2, none⟩ (.slice (some ⟨i, 0, none⟩) nl nl)).setCell ⟨(w.heap.size + 1), 3, none⟩ (.int .i64 T)).setCell ⟨(w.heap.size + 1), 4, none⟩ (.int .i64 N)).setCell ⟨(w.heap.size + 1), 5, none⟩ (.slice (some ⟨j, 0, none⟩) ns ns)).setCell ⟨(w.heap.size + 1), 6, none⟩ (.int .i64 X)).setCell ⟨(w.heap.size + 1), 7, none⟩ (.int .i64 C)).heap.size = W6.heap.size) := hidP (by simp)
  generalize (((((((W6.setCell ⟨(w.heap.size + 1), 0, none⟩ (.slice (some ⟨g, 0, none⟩) np np)).setCell ⟨(w.heap.size + 1), 1, none⟩ (.slice (some ⟨h, 0, none⟩) nb nb)).setCell ⟨(w.heap.size + 1), 2, none⟩ (.slice (some ⟨i, 0, none⟩) nl nl)).setCell ⟨(w.heap.size + 1), 3, none⟩ (.int .i64 T)).setCell ⟨(w.heap.size + 1), 4, none⟩ (.int .i64 N)).setCell ⟨(w.heap.size + 1), 5, none⟩ (.slice (some ⟨j, 0, none⟩) ns ns)).setCell ⟨(w.heap.size + 1), 6, none⟩ (.int .i64 X)).setCell ⟨(w.heap.size + 1), 7, none⟩ (.int .i64 C) = W7 at *
  clear re0_W6 re1_W6 re2_W6 re3_W6 re4_W6 re5_W6 re6_W6 re7_W6 reF_W6 reL_W6 oG_W6 oH_W6 oI_W6 oJ_W6 acc_W6
  refine bodyPost_ret (v := .agg #[.slice (some ⟨g, 0, none⟩) np np, .slice (some ⟨h, 0, none⟩) nb nb, .slice (some ⟨i, 0, none⟩) nl nl, .int .i64 T, .int .i64 N, .slice (some ⟨j, 0, none⟩) ns ns, .int .i64 X, .int .i64 C]) (by simp [results, Tryz.results7, go_sem, re0_W7, re1_W7, re2_W7, re3_W7, re4_W7, re5_W7, re6_W7, re7_W7]) rfl ⟨g, h, i, j, rfl, oG_W7.out.mono (by omega), oH_W7.out.mono (by omega), oI_W7.out.mono (by omega), oJ_W7.out.mono (by omega), acc_W7.out⟩

set_option maxRecDepth 10000 in
set_option maxHeartbeats 4000000 in
theorem eqState_same (ap : Option Addr) (np cp : Nat) (ab : Option Addr) (nb cb : Nat) (al : Option Addr) (nl cl : Nat) (T N : Int) (aS : Option Addr) (ns cs : Nat) (X C : Int) (ps : List Pl) (bs : List Bk) (ls : List Ls) (ss : List Ss) (ap' : Option Addr) (cp' : Nat) (ab' : Option Addr) (cb' : Nat) (al' : Option Addr) (cl' : Nat) (aS' : Option Addr) (cs' : Nat) (w : World) (hnp : np = ps.length) (hnb : nb = bs.length) (hnl : nl = ls.length) (hns : ns = ss.length) (hP : RowG KPl w ap ps) (hK : RowG KBk w ab bs) (hL : RowG KLs w al ls) (hS : RowG KSs w aS ss) (hP' : RowG KPl w ap' ps) (hK' : RowG KBk w ab' bs) (hL' : RowG KLs w al' ls) (hS' : RowG KSs w aS' ss) (hlp : np ≤ 9000000000) (hlb : nb ≤ 9000000000) (hll : nl ≤ 9000000000) (hls : ns ≤ 9000000000) :
    Calls Tryz.prog 9 #[.agg #[.slice ap np cp, .slice ab nb cb, .slice al nl cl, .int .i64 T, .int .i64 N, .slice aS ns cs, .int .i64 X, .int .i64 C], .agg #[.slice ap' np cp', .slice ab' nb cb', .slice al' nl cl', .int .i64 T, .int .i64 N, .slice aS' ns cs', .int .i64 X, .int .i64 C]] w fun e w' => e = .returned (.bool true) ∧ Below w.heap.size w w' := by
  have HP := hidP (fun W h => eqPlan_same ap ap' np cp cp' ab ab' nb cb cb' ps bs W hnp hnb (hP.later h) (hP'.later h) (hK.later h) (hK'.later h) hlp hlb)
  have HB := hidP (fun W h => eqBook_same al al' nl cl cl' T N ls W hnl (hL.later h) (hL'.later h) hll)
  have HD := hidP (fun W h => eqDesk_same aS aS' ns cs cs' X ss W hns (hS.later h) (hS'.later h) hls)
  clear hP hK hL hS hnp hnb hnl hns hP' hK' hL' hS'
  go_enter Tryz.func9, Tryz.ntmps9
  go_wp2_with fail
  obtain ⟨ax0_W1, ax1_W1, ax2_W1, ax3_W1, ax4_W1, ax5_W1, ax6_W1, ax7_W1⟩ := bx8 w 47 (.slice ap np cp) (.slice ab nb cb) (.slice al nl cl) (.int .i64 T) (.int .i64 N) (.slice aS ns cs) (.int .i64 X) (.int .i64 C)
  have axF_W1 : ∀ o, (w.alloc (.cells #[.slice ap np cp, .slice ab nb cb, .slice al nl cl, .int .i64 T, .int .i64 N, .slice aS ns cs, .int .i64 X, .int .i64 C] 47)).frozen? ⟨w.heap.size, o, none⟩ = false := fun o => by simp [go_sem]
  have axL_W1 : w.heap.size < (w.alloc (.cells #[.slice ap np cp, .slice ab nb cb, .slice al nl cl, .int .i64 T, .int .i64 N, .slice aS ns cs, .int .i64 X, .int .i64 C] 47)).heap.size := by simp
  have ab_W1 := alloc_below w (.cells #[.slice ap np cp, .slice ab nb cb, .slice al nl cl, .int .i64 T, .int .i64 N, .slice aS ns cs, .int .i64 X, .int .i64 C] 47)
  have as_W1 : Hid ((w.alloc (.cells #[.slice ap np cp, .slice ab nb cb, .slice al nl cl, .int .i64 T, .int .i64 N, .slice aS ns cs, .int .i64 X, .int .i64 C] 47)).heap.size = w.heap.size + 1) := hidP (by simp)
  generalize w.alloc (.cells #[.slice ap np cp, .slice ab nb cb, .slice al nl cl, .int .i64 T, .int .i64 N, .slice aS ns cs, .int .i64 X, .int .i64 C] 47) = W1 at *
  have acc_W1 := hidP (ab_W1)
  have sz_W1 : Hid (w.heap.size ≤ W1.heap.size) := hidP ab_W1.size
  clear ab_W1 
  obtain ⟨bx0_W2, bx1_W2, bx2_W2, bx3_W2, bx4_W2, bx5_W2, bx6_W2, bx7_W2⟩ := bx8 W1 47 (.slice ap' np cp') (.slice ab' nb cb') (.slice al' nl cl') (.int .i64 T) (.int .i64 N) (.slice aS' ns cs') (.int .i64 X) (.int .i64 C)
  have bxF_W2 : ∀ o, (W1.alloc (.cells #[.slice ap' np cp', .slice ab' nb cb', .slice al' nl cl', .int .i64 T, .int .i64 N, .slice aS' ns cs', .int .i64 X, .int .i64 C] 47)).frozen? ⟨W1.heap.size, o, none⟩ = false := fun o => by simp [go_sem]
  have bxL_W2 : W1.heap.size < (W1.alloc (.cells #[.slice ap' np cp', .slice ab' nb cb', .slice al' nl cl', .int .i64 T, .int .i64 N, .slice aS' ns cs', .int .i64 X, .int .i64 C] 47)).heap.size := by simp
  have ab_W2 := alloc_below W1 (.cells #[.slice ap' np cp', .slice ab' nb cb', .slice al' nl cl', .int .i64 T, .int .i64 N, .slice aS' ns cs', .int .i64 X, .int .i64 C] 47)
  have as_W2 : Hid ((W1.alloc (.cells #[.slice ap' np cp', .slice ab' nb cb', .slice al' nl cl', .int .i64 T, .int .i64 N, .slice aS' ns cs', .int .i64 X, .int .i64 C] 47)).heap.size = W1.heap.size + 1) := hidP (by simp)
  generalize W1.alloc (.cells #[.slice ap' np cp', .slice ab' nb cb', .slice al' nl cl', .int .i64 T, .int .i64 N, .slice aS' ns cs', .int .i64 X, .int .i64 C] 47) = W2 at *
  have ax0_W2 := (ab_W2.cell axL_W1).trans ax0_W1
  have ax1_W2 := (ab_W2.cell axL_W1).trans ax1_W1
  have ax2_W2 := (ab_W2.cell axL_W1).trans ax2_W1
  have ax3_W2 := (ab_W2.cell axL_W1).trans ax3_W1
  have ax4_W2 := (ab_W2.cell axL_W1).trans ax4_W1
  have ax5_W2 := (ab_W2.cell axL_W1).trans ax5_W1
  have ax6_W2 := (ab_W2.cell axL_W1).trans ax6_W1
  have ax7_W2 := (ab_W2.cell axL_W1).trans ax7_W1
  have axF_W2 : ∀ o, W2.frozen? ⟨w.heap.size, o, none⟩ = false := fun o => (ab_W2.frozen axL_W1).trans (axF_W1 o)
  have axL_W2 : w.heap.size < W2.heap.size := Nat.lt_of_lt_of_le axL_W1 ab_W2.size
  have acc_W2 := hidP (acc_W1.out.trans (ab_W2.mono acc_W1.out.size))
  have sz_W2 : Hid (W1.heap.size ≤ W2.heap.size) := hidP ab_W2.size
  clear ab_W2 ax0_W1 ax1_W1 ax2_W1 ax3_W1 ax4_W1 ax5_W1 ax6_W1 ax7_W1 axF_W1 axL_W1 acc_W1
  simp only [as_W1.out] at bx0_W2 bx1_W2 bx2_W2 bx3_W2 bx4_W2 bx5_W2 bx6_W2 bx7_W2 bxF_W2 bxL_W2
  refine (HP.out _ acc_W2.out).mono ?_
  rintro e u0 ⟨rfl, hb0⟩
  have ax0_u0 := (hb0.cell axL_W2).trans ax0_W2
  have ax1_u0 := (hb0.cell axL_W2).trans ax1_W2
  have ax2_u0 := (hb0.cell axL_W2).trans ax2_W2
  have ax3_u0 := (hb0.cell axL_W2).trans ax3_W2
  have ax4_u0 := (hb0.cell axL_W2).trans ax4_W2
  have ax5_u0 := (hb0.cell axL_W2).trans ax5_W2
  have ax6_u0 := (hb0.cell axL_W2).trans ax6_W2
  have ax7_u0 := (hb0.cell axL_W2).trans ax7_W2
  have axF_u0 : ∀ o, u0.frozen? ⟨w.heap.size, o, none⟩ = false := fun o => (hb0.frozen axL_W2).trans (axF_W2 o)
  have axL_u0 : w.heap.size < u0.heap.size := Nat.lt_of_lt_of_le axL_W2 hb0.size
  have bx0_u0 := (hb0.cell bxL_W2).trans bx0_W2
  have bx1_u0 := (hb0.cell bxL_W2).trans bx1_W2
  have bx2_u0 := (hb0.cell bxL_W2).trans bx2_W2
  have bx3_u0 := (hb0.cell bxL_W2).trans bx3_W2
  have bx4_u0 := (hb0.cell bxL_W2).trans bx4_W2
  have bx5_u0 := (hb0.cell bxL_W2).trans bx5_W2
  have bx6_u0 := (hb0.cell bxL_W2).trans bx6_W2
  have bx7_u0 := (hb0.cell bxL_W2).trans bx7_W2
  have bxF_u0 : ∀ o, u0.frozen? ⟨(w.heap.size + 1), o, none⟩ = false := fun o => (hb0.frozen bxL_W2).trans (bxF_W2 o)
  have bxL_u0 : (w.heap.size + 1) < u0.heap.size := Nat.lt_of_lt_of_le bxL_W2 hb0.size
  have acc_u0 := hidP (acc_W2.out.trans (hb0.mono acc_W2.out.size))
  have sz_u0 : Hid (W2.heap.size ≤ u0.heap.size) := hidP hb0.size
  clear hb0 ax0_W2 ax1_W2 ax2_W2 ax3_W2 ax4_W2 ax5_W2 ax6_W2 ax7_W2 axF_W2 axL_W2 bx0_W2 bx1_W2 bx2_W2 bx3_W2 bx4_W2 bx5_W2 bx6_W2 bx7_W2 bxF_W2 bxL_W2 acc_W2
  go_wp2_with fail
  refine (HB.out _ acc_u0.out).mono ?_
  rintro e u1 ⟨rfl, hb1⟩
  have ax0_u1 := (hb1.cell axL_u0).trans ax0_u0
  have ax1_u1 := (hb1.cell axL_u0).trans ax1_u0
  have ax2_u1 := (hb1.cell axL_u0).trans ax2_u0
  have ax3_u1 := (hb1.cell axL_u0).trans ax3_u0
  have ax4_u1 := (hb1.cell axL_u0).trans ax4_u0
  have ax5_u1 := (hb1.cell axL_u0).trans ax5_u0
  have ax6_u1 := (hb1.cell axL_u0).trans ax6_u0
  have ax7_u1 := (hb1.cell axL_u0).trans ax7_u0
  have axF_u1 : ∀ o, u1.frozen? ⟨w.heap.size, o, none⟩ = false := fun o => (hb1.frozen axL_u0).trans (axF_u0 o)
  have axL_u1 : w.heap.size < u1.heap.size := Nat.lt_of_lt_of_le axL_u0 hb1.size
  have bx0_u1 := (hb1.cell bxL_u0).trans bx0_u0
  have bx1_u1 := (hb1.cell bxL_u0).trans bx1_u0
  have bx2_u1 := (hb1.cell bxL_u0).trans bx2_u0
  have bx3_u1 := (hb1.cell bxL_u0).trans bx3_u0
  have bx4_u1 := (hb1.cell bxL_u0).trans bx4_u0
  have bx5_u1 := (hb1.cell bxL_u0).trans bx5_u0
  have bx6_u1 := (hb1.cell bxL_u0).trans bx6_u0
  have bx7_u1 := (hb1.cell bxL_u0).trans bx7_u0
  have bxF_u1 : ∀ o, u1.frozen? ⟨(w.heap.size + 1), o, none⟩ = false := fun o => (hb1.frozen bxL_u0).trans (bxF_u0 o)
  have bxL_u1 : (w.heap.size + 1) < u1.heap.size := Nat.lt_of_lt_of_le bxL_u0 hb1.size
  have acc_u1 := hidP (acc_u0.out.trans (hb1.mono acc_u0.out.size))
  have sz_u1 : Hid (u0.heap.size ≤ u1.heap.size) := hidP hb1.size
  clear hb1 ax0_u0 ax1_u0 ax2_u0 ax3_u0 ax4_u0 ax5_u0 ax6_u0 ax7_u0 axF_u0 axL_u0 bx0_u0 bx1_u0 bx2_u0 bx3_u0 bx4_u0 bx5_u0 bx6_u0 bx7_u0 bxF_u0 bxL_u0 acc_u0
  go_wp2_with fail
  refine (HD.out _ acc_u1.out).mono ?_
  rintro e u2 ⟨rfl, hb2⟩
  have ax0_u2 := (hb2.cell axL_u1).trans ax0_u1
  have ax1_u2 := (hb2.cell axL_u1).trans ax1_u1
  have ax2_u2 := (hb2.cell axL_u1).trans ax2_u1
  have ax3_u2 := (hb2.cell axL_u1).trans ax3_u1
  have ax4_u2 := (hb2.cell axL_u1).trans ax4_u1
  have ax5_u2 := (hb2.cell axL_u1).trans ax5_u1
  have ax6_u2 := (hb2.cell axL_u1).trans ax6_u1
  have ax7_u2 := (hb2.cell axL_u1).trans ax7_u1
  have axF_u2 : ∀ o, u2.frozen? ⟨w.heap.size, o, none⟩ = false := fun o => (hb2.frozen axL_u1).trans (axF_u1 o)
  have axL_u2 : w.heap.size < u2.heap.size := Nat.lt_of_lt_of_le axL_u1 hb2.size
  have bx0_u2 := (hb2.cell bxL_u1).trans bx0_u1
  have bx1_u2 := (hb2.cell bxL_u1).trans bx1_u1
  have bx2_u2 := (hb2.cell bxL_u1).trans bx2_u1
  have bx3_u2 := (hb2.cell bxL_u1).trans bx3_u1
  have bx4_u2 := (hb2.cell bxL_u1).trans bx4_u1
  have bx5_u2 := (hb2.cell bxL_u1).trans bx5_u1
  have bx6_u2 := (hb2.cell bxL_u1).trans bx6_u1
  have bx7_u2 := (hb2.cell bxL_u1).trans bx7_u1
  have bxF_u2 : ∀ o, u2.frozen? ⟨(w.heap.size + 1), o, none⟩ = false := fun o => (hb2.frozen bxL_u1).trans (bxF_u1 o)
  have bxL_u2 : (w.heap.size + 1) < u2.heap.size := Nat.lt_of_lt_of_le bxL_u1 hb2.size
  have acc_u2 := hidP (acc_u1.out.trans (hb2.mono acc_u1.out.size))
  have sz_u2 : Hid (u1.heap.size ≤ u2.heap.size) := hidP hb2.size
  clear hb2 ax0_u1 ax1_u1 ax2_u1 ax3_u1 ax4_u1 ax5_u1 ax6_u1 ax7_u1 axF_u1 axL_u1 bx0_u1 bx1_u1 bx2_u1 bx3_u1 bx4_u1 bx5_u1 bx6_u1 bx7_u1 bxF_u1 bxL_u1 acc_u1
  go_wp2_with fail
  go_ret
  exact ⟨rfl, acc_u2.out⟩

end Go.Proofs.YtplocbpngikohaaGreat
namespace Go.Proofs.YtplocbpngikohaaGreat
open Go.RowKit

theorem boxLs {q : Ls} (w : World) (t : TypeId) : (w.alloc (.cells #[.bool q.a.s, .int .i64 q.a.H.toInt, .int .i64 q.a.L.toInt, .string q.t, .int .i64 q.k, .int .i64 q.u] t)).cell? ⟨w.heap.size, 0, none⟩ = some (.bool q.a.s) ∧ (w.alloc (.cells #[.bool q.a.s, .int .i64 q.a.H.toInt, .int .i64 q.a.L.toInt, .string q.t, .int .i64 q.k, .int .i64 q.u] t)).cell? ⟨w.heap.size, 1, none⟩ = some (.int .i64 q.a.H.toInt) ∧ (w.alloc (.cells #[.bool q.a.s, .int .i64 q.a.H.toInt, .int .i64 q.a.L.toInt, .string q.t, .int .i64 q.k, .int .i64 q.u] t)).cell? ⟨w.heap.size, 2, none⟩ = some (.int .i64 q.a.L.toInt) ∧ (w.alloc (.cells #[.bool q.a.s, .int .i64 q.a.H.toInt, .int .i64 q.a.L.toInt, .string q.t, .int .i64 q.k, .int .i64 q.u] t)).cell? ⟨w.heap.size, 3, none⟩ = some (.string q.t) ∧ (w.alloc (.cells #[.bool q.a.s, .int .i64 q.a.H.toInt, .int .i64 q.a.L.toInt, .string q.t, .int .i64 q.k, .int .i64 q.u] t)).cell? ⟨w.heap.size, 4, none⟩ = some (.int .i64 q.k) ∧ (w.alloc (.cells #[.bool q.a.s, .int .i64 q.a.H.toInt, .int .i64 q.a.L.toInt, .string q.t, .int .i64 q.k, .int .i64 q.u] t)).cell? ⟨w.heap.size, 5, none⟩ = some (.int .i64 q.u) := by
  have h := own_oneG KLs w 0 t q (Nat.zero_le _)
  exact ⟨World.ownsRow.cellAt h 0 (by show 0 < 1 * 6; omega), World.ownsRow.cellAt h 1 (by show 1 < 1 * 6; omega), World.ownsRow.cellAt h 2 (by show 2 < 1 * 6; omega), World.ownsRow.cellAt h 3 (by show 3 < 1 * 6; omega), World.ownsRow.cellAt h 4 (by show 4 < 1 * 6; omega), World.ownsRow.cellAt h 5 (by show 5 < 1 * 6; omega)⟩
theorem cmpW_ge (a b : Nat) : decide (0 ≤ cmpW (a : Int) (b : Int)) = !decide (a < b) := by
  unfold cmpW
  by_cases h : (a : Int) < b
  · rw [if_pos h, decide_eq_true (show a < b by omega)]; rfl
  · rw [if_neg h, decide_eq_false (show ¬ a < b by omega)]
    split <;> rfl
set_option maxRecDepth 10000 in
set_option maxHeartbeats 4000000 in
theorem leaseOk_any (a : Option Addr) (n c : Nat) (T N : Int) (q : Ls) (hs : q.t.size ≤ 9223372036854775807) (w : World) :
    Calls Tryz.prog 75 #[.agg #[.slice a n c, .int .i64 T, .int .i64 N], .agg #[.bool q.a.s, .int .i64 q.a.H.toInt, .int .i64 q.a.L.toInt, .string q.t, .int .i64 q.k, .int .i64 q.u]] w fun e w' => e = .returned (.bool (okLs T N q)) ∧ Below w.heap.size w w' := by
  have HA := hidP (iAddrOk_any q.a.s q.a.H.toInt q.a.L.toInt)
  have HO := hidP (fun w => iOwnerOk_any q.t w hs)
  have hv : okLs T N q = ((okB q.a.s q.a.H.toInt q.a.L.toInt && ownB q.t) && ((decide (1 ≤ q.k) && decide (q.k ≤ T)) && (decide (N < q.u) && decide (q.u ≤ 1000000000)))) := rfl
  rw [hv]
  clear hv
  generalize okB q.a.s q.a.H.toInt q.a.L.toInt = A at *
  generalize ownB q.t = O at *
  cases A
  · cases h1 : decide (1 ≤ q.k) <;> cases h3 : decide (N < q.u)
    all_goals
      go_enter Tryz.func75, Tryz.ntmps75
      go_wp2_with fail
      refine (HA.out _).mono ?_
      rintro e w2 ⟨rfl, hb2⟩
      have HB2 := hidP hb2
      clear hb2
      go_wp2_with fail
      go_ret
      exact ⟨rfl, ((alloc_below w _).alloc (by simp) _).trans (HB2.out.mono (by simp; omega))⟩
  · cases O <;> cases h1 : decide (1 ≤ q.k) <;> cases h2 : decide (q.k ≤ T) <;> cases h3 : decide (N < q.u)
    all_goals
      go_enter Tryz.func75, Tryz.ntmps75
      go_wp2_with fail
      refine (HA.out _).mono ?_
      rintro e w2 ⟨rfl, hb2⟩
      have hc : w2.cell? ⟨w.heap.size + 1, 3, none⟩ = some (.string q.t) := (hb2.cell (by simp)).trans (by simp [go_sem])
      have HB2 := hidP hb2
      clear hb2
      go_wp2_with fail
      refine (HO.out _).mono ?_
      rintro e w3 ⟨rfl, rfl⟩
      go_wp2_with fail
      go_ret
      exact ⟨rfl, ((alloc_below w _).alloc (by simp) _).trans (HB2.out.mono (by simp; omega))⟩

set_option maxRecDepth 10000 in
set_option maxHeartbeats 2000000 in
theorem leasesOk_any (a : Option Addr) (n c : Nat) (T N : Int) (ls : List Ls) (w : World) (hn : n = ls.length) (hB : RowG KLs w a ls) (hl : n ≤ 9000000000) (hst : ∀ q ∈ ls, q.t.size ≤ 9223372036854775807) :
    Calls Tryz.prog 51 #[.agg #[.slice a n c, .int .i64 T, .int .i64 N]] w fun e w' => e = .returned (.bool (leasesF T N none ls)) ∧ Below w.heap.size w w' := by
  have HB := hidP (fun W h => hB.later (w' := W) h)
  have HN := hidP hn
  have HST := hidP hst
  clear hB hn hst
  go_enter Tryz.func51, Tryz.ntmps51
  go_wp2_with fail
  obtain ⟨b0, b1, b2⟩ := box3B w 42 (.slice a n c) (.int .i64 T) (.int .i64 N)
  have bB := alloc_below w (.cells #[.slice a n c, .int .i64 T, .int .i64 N] 42)
  have bL := alloc_lt w (.cells #[.slice a n c, .int .i64 T, .int .i64 N] 42)
  have bS : (w.alloc (.cells #[.slice a n c, .int .i64 T, .int .i64 N] 42)).heap.size = w.heap.size + 1 := by simp
  generalize w.alloc (.cells #[.slice a n c, .int .i64 T, .int .i64 N] 42) = W1 at *
  have HR := hidP (HB.out _ bB)
  have HU := hidP bB
  clear bB HB
  go_loopw [3, 4, 8] (fun _ _ t8 wr => ∃ k : Nat, k ≤ n ∧ t8 = .int .i64 k ∧ leasesF T N none ls = leasesF T N (prvL ls k) (ls.drop k) ∧ (∀ r, prvL ls k = some r → r.ok = true) ∧ Below W1.heap.size W1 wr) (fun _ _ t8 _ => n - (intOf t8).toNat)
  case atStart => exact ⟨0, Nat.zero_le _, rfl, rfl, (fun r h => by cases h), Below.refl _ _⟩
  case round =>
    obtain ⟨k, hk, rfl, hpo, hpr, hbel⟩ := hrel
    have B0 := (hbel.cell bL).trans b0
    have B1 := (hbel.cell bL).trans b1
    have B2 := (hbel.cell bL).trans b2
    have BL : w.heap.size < wr.heap.size := Nat.lt_of_lt_of_le bL hbel.size
    by_cases hlt : k < n
    · obtain ⟨p, o, q, rfl, hp, hq, c0, c1, c2, c3, c4, c5⟩ := rowLs HR.out k (by rw [← HN.out]; exact hlt)
      have d0 := (hbel.cell hp).trans c0
      have d1 := (hbel.cell hp).trans c1
      have d2 := (hbel.cell hp).trans c2
      have d3 := (hbel.cell hp).trans c3
      have d4 := (hbel.cell hp).trans c4
      have d5 := (hbel.cell hp).trans c5
      have hpw : p < wr.heap.size := Nat.lt_of_lt_of_le hp hbel.size
      rw [drop_at hq] at hpo
      have hpo' : leasesF T N none ls = ((okLs T N q && ascA (prvL ls k) q.a) && leasesF T N (some q.a) (ls.drop (k + 1))) := hpo
      have HNx := hidP (prvL_next hq)
      have HPo := hidP hpo'
      have HPr := hidP hpr
      have HBel := hidP hbel
      have HP1 := hidP (leaseOk_any (some ⟨p, o, none⟩) n c T N q (HST.out q (List.mem_of_getElem? hq)))
      clear c0 c1 c2 c3 c4 c5 hq hpo hpo' hpr hbel b0 b1 b2
      cases hok : okLs T N q
      · rw [hok] at HP1 HPo
        have HF : Hid (leasesF T N none ls = false) := hidP (by rw [HPo.out]; rfl)
        clear HPo HPr HNx
        go_wp2_with fail
        obtain ⟨x0, x1, x2, x3, x4, x5⟩ := boxLs (q := q) wr 71
        have xB := alloc_below wr (.cells #[.bool q.a.s, .int .i64 q.a.H.toInt, .int .i64 q.a.L.toInt, .string q.t, .int .i64 q.k, .int .i64 q.u] 71)
        have xL := alloc_lt wr (.cells #[.bool q.a.s, .int .i64 q.a.H.toInt, .int .i64 q.a.L.toInt, .string q.t, .int .i64 q.k, .int .i64 q.u] 71)
        have xS : (wr.alloc (.cells #[.bool q.a.s, .int .i64 q.a.H.toInt, .int .i64 q.a.L.toInt, .string q.t, .int .i64 q.k, .int .i64 q.u] 71)).heap.size = wr.heap.size + 1 := by simp
        generalize wr.alloc (.cells #[.bool q.a.s, .int .i64 q.a.H.toInt, .int .i64 q.a.L.toInt, .string q.t, .int .i64 q.k, .int .i64 q.u] 71) = W2 at *
        have D0 := (xB.cell BL).trans B0
        have D1 := (xB.cell BL).trans B1
        have D2 := (xB.cell BL).trans B2
        have DL : w.heap.size < W2.heap.size := Nat.lt_of_lt_of_le BL xB.size
        have HXB := hidP xB
        clear xS
        clear xB
        have HSx : Hid (∀ x, Below W2.heap.size W2 x → (x.cell? ⟨w.heap.size, 0, none⟩ = some (.slice (some ⟨p, o, none⟩) n c) ∧ x.cell? ⟨w.heap.size, 1, none⟩ = some (.int .i64 T) ∧ x.cell? ⟨w.heap.size, 2, none⟩ = some (.int .i64 N) ∧ x.cell? ⟨wr.heap.size, 0, none⟩ = some (.bool q.a.s) ∧ x.cell? ⟨wr.heap.size, 1, none⟩ = some (.int .i64 q.a.H.toInt) ∧ x.cell? ⟨wr.heap.size, 2, none⟩ = some (.int .i64 q.a.L.toInt) ∧ x.cell? ⟨wr.heap.size, 3, none⟩ = some (.string q.t) ∧ x.cell? ⟨wr.heap.size, 4, none⟩ = some (.int .i64 q.k) ∧ x.cell? ⟨wr.heap.size, 5, none⟩ = some (.int .i64 q.u) ∧ Below W2.heap.size W2 x)) := hidP fun x h =>
          ⟨(h.cell DL).trans D0, (h.cell DL).trans D1, (h.cell DL).trans D2, (h.cell xL).trans x0, (h.cell xL).trans x1, (h.cell xL).trans x2, (h.cell xL).trans x3, (h.cell xL).trans x4, (h.cell xL).trans x5, h⟩
        refine wp_region_held_drew (S := (fun x => x.cell? ⟨w.heap.size, 0, none⟩ = some (.slice (some ⟨p, o, none⟩) n c) ∧ x.cell? ⟨w.heap.size, 1, none⟩ = some (.int .i64 T) ∧ x.cell? ⟨w.heap.size, 2, none⟩ = some (.int .i64 N) ∧ x.cell? ⟨wr.heap.size, 0, none⟩ = some (.bool q.a.s) ∧ x.cell? ⟨wr.heap.size, 1, none⟩ = some (.int .i64 q.a.H.toInt) ∧ x.cell? ⟨wr.heap.size, 2, none⟩ = some (.int .i64 q.a.L.toInt) ∧ x.cell? ⟨wr.heap.size, 3, none⟩ = some (.string q.t) ∧ x.cell? ⟨wr.heap.size, 4, none⟩ = some (.int .i64 q.k) ∧ x.cell? ⟨wr.heap.size, 5, none⟩ = some (.int .i64 q.u) ∧ Below W2.heap.size W2 x)) (by kernel_rfl) ?_ (fun hHeld => ?_)
        · try dsimp only
          exact HSx.out _ ((Below.refl _ _).drew)
        refine tkA 0 13 (v := ?_) rfl (by kernel_rfl) (fun _ _ _ h => h) (by rfl) ?_ (by assumption) ?_; rotate_left; · (intro w hSw; (try dsimp only at hSw); go_simp; try with_reducible rfl)
        simp only [pa]
        refine tkA 1 14 (v := ?_) rfl (by kernel_rfl) (fun _ _ _ h => h) (by rfl) ?_ (by assumption) ?_; rotate_left; · (intro w hSw; (try dsimp only at hSw); go_simp; try with_reducible rfl)
        simp only [pa]
        refine wpAnyH_ready (rs := [2]) (by kernel_rfl) (by simp) ?_
        refine AllReadyH.cons rfl (fun K hK => ?_) AllReadyH.nil
        go_simp
        go_wp2_with (first | (go_at_call 75; refine (HP1.out _).mono ?_; rintro e w2 ⟨rfl, hb2⟩; have b2 := (hHeld.2.2.2.2.2.2.2.2.2).trans (hb2.mono (hHeld.2.2.2.2.2.2.2.2.2).size)))
        refine hK.out _ _ ?_ (fun hHeld => ?_)
        · try dsimp only
          exact HSx.out _ b2
        clear hK K
        refine tkA 3 16 (v := ?_) rfl (by kernel_rfl) (fun _ _ _ h => h) (by rfl) ?_ (by assumption) ?_; rotate_left; · (intro w hSw; (try dsimp only at hSw); go_simp; try with_reducible rfl)
        simp only [pa]
        refine tkA 4 17 (v := ?_) rfl (by kernel_rfl) (fun _ _ _ h => h) (by rfl) ?_ (by assumption) ?_; rotate_left; · (intro w hSw; (try dsimp only at hSw); go_simp; try with_reducible rfl)
        simp only [pa]
        refine wpAnyH_take (i := 5) (oi := ⟨some 18, _, _, _, _, _⟩) (v := undef) rfl (by kernel_rfl) (by kernel_rfl) (by kernel_rfl) (fun _ _ _ h => h) (Or.inr ⟨by rfl, rfl⟩) (by assumption) ?_
        simp only [pa]
        refine wpAnyH_take (i := 6) (oi := ⟨some 19, _, _, _, _, _⟩) (v := undef) rfl (by kernel_rfl) (by kernel_rfl) (by kernel_rfl) (fun _ _ _ h => h) (Or.inr ⟨by rfl, rfl⟩) (by assumption) ?_
        simp only [pa]
        refine wpAnyH_take (i := 7) (oi := ⟨some 20, _, _, _, _, _⟩) (v := undef) rfl (by kernel_rfl) (by kernel_rfl) (by kernel_rfl) (fun _ _ _ h => h) (Or.inr ⟨by rfl, rfl⟩) (by assumption) ?_
        simp only [pa]
        refine wpAnyH_take (i := 8) (oi := ⟨some 21, _, _, _, _, _⟩) (v := undef) rfl (by kernel_rfl) (by kernel_rfl) (by kernel_rfl) (fun _ _ _ h => h) (Or.inr ⟨by rfl, rfl⟩) (by assumption) ?_
        simp only [pa]
        refine wpAnyH_take (i := 9) (oi := ⟨some 22, _, _, _, _, _⟩) (v := undef) rfl (by kernel_rfl) (by kernel_rfl) (by kernel_rfl) (fun _ _ _ h => h) (Or.inr ⟨by rfl, rfl⟩) (by assumption) ?_
        simp only [pa]
        refine wpAnyH_take (i := 10) (oi := ⟨some 23, _, _, _, _, _⟩) (v := undef) rfl (by kernel_rfl) (by kernel_rfl) (by kernel_rfl) (fun _ _ _ h => h) (Or.inr ⟨by rfl, rfl⟩) (by assumption) ?_
        simp only [pa]
        refine wpAnyH_take (i := 11) (oi := ⟨some 24, _, _, _, _, _⟩) (v := undef) rfl (by kernel_rfl) (by kernel_rfl) (by kernel_rfl) (fun _ _ _ h => h) (Or.inr ⟨by rfl, rfl⟩) (by assumption) ?_
        simp only [pa]
        refine wpAnyH_take (i := 12) (oi := ⟨some 25, _, _, _, _, _⟩) (v := undef) rfl (by kernel_rfl) (by kernel_rfl) (by kernel_rfl) (fun _ _ _ h => h) (Or.inr ⟨by rfl, rfl⟩) (by assumption) ?_
        simp only [pa]
        refine wpAnyH_take (i := 13) (oi := ⟨some 26, _, _, _, _, _⟩) (v := undef) rfl (by kernel_rfl) (by kernel_rfl) (by kernel_rfl) (fun _ _ _ h => h) (Or.inr ⟨by rfl, rfl⟩) (by assumption) ?_
        simp only [pa]
        refine wpAnyH_take (i := 14) (oi := ⟨some 27, _, _, _, _, _⟩) (v := undef) rfl (by kernel_rfl) (by kernel_rfl) (by kernel_rfl) (fun _ _ _ h => h) (Or.inr ⟨by rfl, rfl⟩) (by assumption) ?_
        simp only [pa]
        refine wpAnyH_take (i := 15) (oi := ⟨some 28, _, _, _, _, _⟩) (v := undef) rfl (by kernel_rfl) (by kernel_rfl) (by kernel_rfl) (fun _ _ _ h => h) (Or.inr ⟨by rfl, rfl⟩) (by assumption) ?_
        simp only [pa]
        refine wpAnyH_take (i := 16) (oi := ⟨some 29, _, _, _, _, _⟩) (v := undef) rfl (by kernel_rfl) (by kernel_rfl) (by kernel_rfl) (fun _ _ _ h => h) (Or.inr ⟨by rfl, rfl⟩) (by assumption) ?_
        simp only [pa]
        refine wpAnyH_take (i := 17) (oi := ⟨some 30, _, _, _, _, _⟩) (v := undef) rfl (by kernel_rfl) (by kernel_rfl) (by kernel_rfl) (fun _ _ _ h => h) (Or.inr ⟨by rfl, rfl⟩) (by assumption) ?_
        simp only [pa]
        refine wpAnyH_take (i := 18) (oi := ⟨some 31, _, _, _, _, _⟩) (v := undef) rfl (by kernel_rfl) (by kernel_rfl) (by kernel_rfl) (fun _ _ _ h => h) (Or.inr ⟨by rfl, rfl⟩) (by assumption) ?_
        simp only [pa]
        refine wpAnyH_take (i := 19) (oi := ⟨some 32, _, _, _, _, _⟩) (v := undef) rfl (by kernel_rfl) (by kernel_rfl) (by kernel_rfl) (fun _ _ _ h => h) (Or.inr ⟨by rfl, rfl⟩) (by assumption) ?_
        simp only [pa]
        refine tkA 20 33 (v := ?_) rfl (by kernel_rfl) (fun _ _ _ h => h) (by rfl) ?_ (by assumption) ?_; rotate_left; · (intro w hSw; (try dsimp only at hSw); go_simp; try with_reducible rfl)
        simp only [pa]
        have HE := hidP (hHeld.2.2.2.2.2.2.2.2.2)
        refine wpAnyH_done (by kernel_rfl) ?_ _
        clear hHeld
        go_wp2_with fail
        go_ret
        exact ⟨ret_b HF.out.symm, HU.out.trans ((below_box HBel.out HBel.out.size HXB.out HE.out).mono HU.out.size)⟩
      · rw [hok] at HP1 HPo
        have HOk := hidP (okLs_ok hok)
        by_cases hk0 : k = 0
        · have g0 : decide ((0 : Int) < (k : Int)) = false := decide_eq_false (by omega)
          have g1 : decide (0 < k) = false := decide_eq_false (by omega)
          have HF : Hid (leasesF T N none ls = leasesF T N (some q.a) (ls.drop (k + 1))) := hidP (by rw [HPo.out, hk0]; rfl)
          clear HPo HPr hk0
          go_wp2_with fail
          obtain ⟨x0, x1, x2, x3, x4, x5⟩ := boxLs (q := q) wr 71
          have xB := alloc_below wr (.cells #[.bool q.a.s, .int .i64 q.a.H.toInt, .int .i64 q.a.L.toInt, .string q.t, .int .i64 q.k, .int .i64 q.u] 71)
          have xL := alloc_lt wr (.cells #[.bool q.a.s, .int .i64 q.a.H.toInt, .int .i64 q.a.L.toInt, .string q.t, .int .i64 q.k, .int .i64 q.u] 71)
          have xS : (wr.alloc (.cells #[.bool q.a.s, .int .i64 q.a.H.toInt, .int .i64 q.a.L.toInt, .string q.t, .int .i64 q.k, .int .i64 q.u] 71)).heap.size = wr.heap.size + 1 := by simp
          generalize wr.alloc (.cells #[.bool q.a.s, .int .i64 q.a.H.toInt, .int .i64 q.a.L.toInt, .string q.t, .int .i64 q.k, .int .i64 q.u] 71) = W2 at *
          have D0 := (xB.cell BL).trans B0
          have D1 := (xB.cell BL).trans B1
          have D2 := (xB.cell BL).trans B2
          have DL : w.heap.size < W2.heap.size := Nat.lt_of_lt_of_le BL xB.size
          have HXB := hidP xB
          clear xS
          clear xB
          have HSx : Hid (∀ x, Below W2.heap.size W2 x → (x.cell? ⟨w.heap.size, 0, none⟩ = some (.slice (some ⟨p, o, none⟩) n c) ∧ x.cell? ⟨w.heap.size, 1, none⟩ = some (.int .i64 T) ∧ x.cell? ⟨w.heap.size, 2, none⟩ = some (.int .i64 N) ∧ x.cell? ⟨wr.heap.size, 0, none⟩ = some (.bool q.a.s) ∧ x.cell? ⟨wr.heap.size, 1, none⟩ = some (.int .i64 q.a.H.toInt) ∧ x.cell? ⟨wr.heap.size, 2, none⟩ = some (.int .i64 q.a.L.toInt) ∧ x.cell? ⟨wr.heap.size, 3, none⟩ = some (.string q.t) ∧ x.cell? ⟨wr.heap.size, 4, none⟩ = some (.int .i64 q.k) ∧ x.cell? ⟨wr.heap.size, 5, none⟩ = some (.int .i64 q.u) ∧ Below W2.heap.size W2 x)) := hidP fun x h =>
            ⟨(h.cell DL).trans D0, (h.cell DL).trans D1, (h.cell DL).trans D2, (h.cell xL).trans x0, (h.cell xL).trans x1, (h.cell xL).trans x2, (h.cell xL).trans x3, (h.cell xL).trans x4, (h.cell xL).trans x5, h⟩
          refine wp_region_held_drew (S := (fun x => x.cell? ⟨w.heap.size, 0, none⟩ = some (.slice (some ⟨p, o, none⟩) n c) ∧ x.cell? ⟨w.heap.size, 1, none⟩ = some (.int .i64 T) ∧ x.cell? ⟨w.heap.size, 2, none⟩ = some (.int .i64 N) ∧ x.cell? ⟨wr.heap.size, 0, none⟩ = some (.bool q.a.s) ∧ x.cell? ⟨wr.heap.size, 1, none⟩ = some (.int .i64 q.a.H.toInt) ∧ x.cell? ⟨wr.heap.size, 2, none⟩ = some (.int .i64 q.a.L.toInt) ∧ x.cell? ⟨wr.heap.size, 3, none⟩ = some (.string q.t) ∧ x.cell? ⟨wr.heap.size, 4, none⟩ = some (.int .i64 q.k) ∧ x.cell? ⟨wr.heap.size, 5, none⟩ = some (.int .i64 q.u) ∧ Below W2.heap.size W2 x)) (by kernel_rfl) ?_ (fun hHeld => ?_)
          · try dsimp only
            exact HSx.out _ ((Below.refl _ _).drew)
          refine tkA 0 13 (v := ?_) rfl (by kernel_rfl) (fun _ _ _ h => h) (by rfl) ?_ (by assumption) ?_; rotate_left; · (intro w hSw; (try dsimp only at hSw); go_simp; try with_reducible rfl)
          simp only [pa]
          refine tkA 1 14 (v := ?_) rfl (by kernel_rfl) (fun _ _ _ h => h) (by rfl) ?_ (by assumption) ?_; rotate_left; · (intro w hSw; (try dsimp only at hSw); go_simp; try with_reducible rfl)
          simp only [pa]
          refine wpAnyH_ready (rs := [2]) (by kernel_rfl) (by simp) ?_
          refine AllReadyH.cons rfl (fun K hK => ?_) AllReadyH.nil
          go_simp
          go_wp2_with (first | (go_at_call 75; refine (HP1.out _).mono ?_; rintro e w2 ⟨rfl, hb2⟩; have b2 := (hHeld.2.2.2.2.2.2.2.2.2).trans (hb2.mono (hHeld.2.2.2.2.2.2.2.2.2).size)))
          refine hK.out _ _ ?_ (fun hHeld => ?_)
          · try dsimp only
            exact HSx.out _ b2
          clear hK K
          refine tkA 3 16 (v := ?_) rfl (by kernel_rfl) (fun _ _ _ h => h) (by rfl) ?_ (by assumption) ?_; rotate_left; · (intro w hSw; (try dsimp only at hSw); go_simp; try with_reducible rfl)
          simp only [pa]
          refine tkA 4 17 (v := ?_) rfl (by kernel_rfl) (fun _ _ _ h => h) (by rfl) ?_ (by assumption) ?_; rotate_left; · (intro w hSw; (try dsimp only at hSw); go_simp; try with_reducible rfl)
          simp only [pa]
          refine tkA 5 18 (v := ?_) rfl (by kernel_rfl) (fun _ _ _ h => h) (by rfl) ?_ (by assumption) ?_; rotate_left; · (intro w hSw; (try dsimp only at hSw); go_simp; try with_reducible rfl)
          simp only [pa]
          refine tkA 6 19 (v := ?_) rfl (by kernel_rfl) (fun _ _ _ h => h) (by rfl) ?_ (by assumption) ?_; rotate_left; · (intro w hSw; (try dsimp only at hSw); go_simp; try with_reducible rfl)
          simp only [pa]
          refine tkA 7 20 (v := ?_) rfl (by kernel_rfl) (fun _ _ _ h => h) (by rfl) ?_ (by assumption) ?_; rotate_left; · (intro w hSw; (try dsimp only at hSw); go_simp; try with_reducible rfl)
          simp only [pa]
          refine wpAnyH_take (i := 8) (oi := ⟨some 21, _, _, _, _, _⟩) (v := undef) rfl (by kernel_rfl) (by kernel_rfl) (by kernel_rfl) (fun _ _ _ h => h) (Or.inr ⟨by rfl, rfl⟩) (by assumption) ?_
          simp only [pa]
          refine wpAnyH_take (i := 9) (oi := ⟨some 22, _, _, _, _, _⟩) (v := undef) rfl (by kernel_rfl) (by kernel_rfl) (by kernel_rfl) (fun _ _ _ h => h) (Or.inr ⟨by rfl, rfl⟩) (by assumption) ?_
          simp only [pa]
          refine wpAnyH_take (i := 10) (oi := ⟨some 23, _, _, _, _, _⟩) (v := undef) rfl (by kernel_rfl) (by kernel_rfl) (by kernel_rfl) (fun _ _ _ h => h) (Or.inr ⟨by rfl, rfl⟩) (by assumption) ?_
          simp only [pa]
          refine wpAnyH_take (i := 11) (oi := ⟨some 24, _, _, _, _, _⟩) (v := undef) rfl (by kernel_rfl) (by kernel_rfl) (by kernel_rfl) (fun _ _ _ h => h) (Or.inr ⟨by rfl, rfl⟩) (by assumption) ?_
          simp only [pa]
          refine wpAnyH_take (i := 12) (oi := ⟨some 25, _, _, _, _, _⟩) (v := undef) rfl (by kernel_rfl) (by kernel_rfl) (by kernel_rfl) (fun _ _ _ h => h) (Or.inr ⟨by rfl, rfl⟩) (by assumption) ?_
          simp only [pa]
          refine wpAnyH_take (i := 13) (oi := ⟨some 26, _, _, _, _, _⟩) (v := undef) rfl (by kernel_rfl) (by kernel_rfl) (by kernel_rfl) (fun _ _ _ h => h) (Or.inr ⟨by rfl, rfl⟩) (by assumption) ?_
          simp only [pa]
          refine wpAnyH_take (i := 14) (oi := ⟨some 27, _, _, _, _, _⟩) (v := undef) rfl (by kernel_rfl) (by kernel_rfl) (by kernel_rfl) (fun _ _ _ h => h) (Or.inr ⟨by rfl, rfl⟩) (by assumption) ?_
          simp only [pa]
          refine wpAnyH_take (i := 15) (oi := ⟨some 28, _, _, _, _, _⟩) (v := undef) rfl (by kernel_rfl) (by kernel_rfl) (by kernel_rfl) (fun _ _ _ h => h) (Or.inr ⟨by rfl, rfl⟩) (by assumption) ?_
          simp only [pa]
          refine wpAnyH_take (i := 16) (oi := ⟨some 29, _, _, _, _, _⟩) (v := undef) rfl (by kernel_rfl) (by kernel_rfl) (by kernel_rfl) (fun _ _ _ h => h) (Or.inr ⟨by rfl, rfl⟩) (by assumption) ?_
          simp only [pa]
          refine wpAnyH_take (i := 17) (oi := ⟨some 30, _, _, _, _, _⟩) (v := undef) rfl (by kernel_rfl) (by kernel_rfl) (by kernel_rfl) (fun _ _ _ h => h) (Or.inr ⟨by rfl, rfl⟩) (by assumption) ?_
          simp only [pa]
          refine wpAnyH_take (i := 18) (oi := ⟨some 31, _, _, _, _, _⟩) (v := undef) rfl (by kernel_rfl) (by kernel_rfl) (by kernel_rfl) (fun _ _ _ h => h) (Or.inr ⟨by rfl, rfl⟩) (by assumption) ?_
          simp only [pa]
          refine tkA 19 32 (v := ?_) rfl (by kernel_rfl) (fun _ _ _ h => h) (by rfl) ?_ (by assumption) ?_; rotate_left; · (intro w hSw; (try dsimp only at hSw); go_simp; try with_reducible rfl)
          simp only [pa]
          refine tkA 20 33 (v := ?_) rfl (by kernel_rfl) (fun _ _ _ h => h) (by rfl) ?_ (by assumption) ?_; rotate_left; · (intro w hSw; (try dsimp only at hSw); go_simp; try with_reducible rfl)
          simp only [pa]
          have HE := hidP (hHeld.2.2.2.2.2.2.2.2.2)
          refine wpAnyH_done (by kernel_rfl) ?_ _
          clear hHeld
          go_wp2_with fail
          go_roundw
          case rel => exact ⟨k + 1, by omega, by go_num, by rw [HF.out, HNx.out], (fun r h => by rw [HNx.out] at h; cases h; exact HOk.out), below_box HBel.out HBel.out.size HXB.out HE.out⟩
          case measure => simp [intOf]; omega
        · have g0 : decide ((0 : Int) < (k : Int)) = true := decide_eq_true (by omega)
          have g1 : decide (0 < k) = true := decide_eq_true (by omega)
          obtain ⟨J, hJ⟩ : ∃ J, J = k - 1 := ⟨_, rfl⟩
          have hkJ : k = J + 1 := by omega
          have hJi : (k : Int) - 1 = (J : Int) := by omega
          have hJn : J < n := by omega
          have wJ : IntKind.i64.wrap (J : Int) = (J : Int) := by rw [IntKind.wrap_i64]; omega
          have hJ0 : (0 : Int) ≤ (J : Int) := by omega
          have hJ1 : (J : Int) < (n : Int) := by omega
          obtain ⟨p', o', r, he, hp', hr, c0, c1, c2, c3, c4, c5⟩ := rowLs HR.out J (by rw [← HN.out]; exact hJn)
          simp only [Option.some.injEq, Addr.mk.injEq, and_true] at he
          obtain ⟨rfl, rfl⟩ := he
          have hprv : prvL ls k = some r.a := by rw [hkJ]; exact prvL_next hr
          have hrok : r.a.ok = true := HPr.out _ hprv
          have HPo2 : Hid (leasesF T N none ls = ((true && decide (r.a.key < q.a.key)) && leasesF T N (some q.a) (ls.drop (k + 1)))) := hidP (by rw [HPo.out, hprv]; rfl)
          have HFo := hidP ((cmp_ok r.a.s r.a.H r.a.L q.a.s q.a.H q.a.L hrok HOk.out).2)
          have hge : decide (0 ≤ cmpW (keyN r.a.s r.a.H r.a.L : Int) (keyN q.a.s q.a.H q.a.L : Int)) = !decide (r.a.key < q.a.key) := cmpW_ge _ _
          generalize cmpW (keyN r.a.s r.a.H r.a.L : Int) (keyN q.a.s q.a.H q.a.L : Int) = z at *
          have e0 := (HBel.out.cell hp').trans c0
          have e1 := (HBel.out.cell hp').trans c1
          have e2 := (HBel.out.cell hp').trans c2
          clear c0 c1 c2 c3 c4 c5 hr hprv hrok hJ hkJ hk0 HPo HPr
          cases hfo : decide (r.a.key < q.a.key)
          · rw [hfo] at HPo2 hge
            have hge' : decide (0 ≤ z) = true := hge
            have HF : Hid (leasesF T N none ls = false) := hidP (by rw [HPo2.out]; rfl)
            clear HPo2 hge hfo
            go_wp2_with fail
            obtain ⟨x0, x1, x2, x3, x4, x5⟩ := boxLs (q := q) wr 71
            have xB := alloc_below wr (.cells #[.bool q.a.s, .int .i64 q.a.H.toInt, .int .i64 q.a.L.toInt, .string q.t, .int .i64 q.k, .int .i64 q.u] 71)
            have xL := alloc_lt wr (.cells #[.bool q.a.s, .int .i64 q.a.H.toInt, .int .i64 q.a.L.toInt, .string q.t, .int .i64 q.k, .int .i64 q.u] 71)
            have xS : (wr.alloc (.cells #[.bool q.a.s, .int .i64 q.a.H.toInt, .int .i64 q.a.L.toInt, .string q.t, .int .i64 q.k, .int .i64 q.u] 71)).heap.size = wr.heap.size + 1 := by simp
            generalize wr.alloc (.cells #[.bool q.a.s, .int .i64 q.a.H.toInt, .int .i64 q.a.L.toInt, .string q.t, .int .i64 q.k, .int .i64 q.u] 71) = W2 at *
            have D0 := (xB.cell BL).trans B0
            have D1 := (xB.cell BL).trans B1
            have D2 := (xB.cell BL).trans B2
            have DL : w.heap.size < W2.heap.size := Nat.lt_of_lt_of_le BL xB.size
            have HXB := hidP xB
            clear xS
            have y0 := (xB.cell hpw).trans e0
            have y1 := (xB.cell hpw).trans e1
            have y2 := (xB.cell hpw).trans e2
            have yL : p < W2.heap.size := Nat.lt_of_lt_of_le hpw xB.size
            clear xB
            have HSx : Hid (∀ x, Below W2.heap.size W2 x → (x.cell? ⟨w.heap.size, 0, none⟩ = some (.slice (some ⟨p, o, none⟩) n c) ∧ x.cell? ⟨w.heap.size, 1, none⟩ = some (.int .i64 T) ∧ x.cell? ⟨w.heap.size, 2, none⟩ = some (.int .i64 N) ∧ x.cell? ⟨wr.heap.size, 0, none⟩ = some (.bool q.a.s) ∧ x.cell? ⟨wr.heap.size, 1, none⟩ = some (.int .i64 q.a.H.toInt) ∧ x.cell? ⟨wr.heap.size, 2, none⟩ = some (.int .i64 q.a.L.toInt) ∧ x.cell? ⟨wr.heap.size, 3, none⟩ = some (.string q.t) ∧ x.cell? ⟨wr.heap.size, 4, none⟩ = some (.int .i64 q.k) ∧ x.cell? ⟨wr.heap.size, 5, none⟩ = some (.int .i64 q.u) ∧ x.cell? ⟨p, o + J * 6, none⟩ = some (.bool r.a.s) ∧ x.cell? ⟨p, o + J * 6 + 1, none⟩ = some (.int .i64 r.a.H.toInt) ∧ x.cell? ⟨p, o + J * 6 + 2, none⟩ = some (.int .i64 r.a.L.toInt) ∧ Below W2.heap.size W2 x)) := hidP fun x h =>
              ⟨(h.cell DL).trans D0, (h.cell DL).trans D1, (h.cell DL).trans D2, (h.cell xL).trans x0, (h.cell xL).trans x1, (h.cell xL).trans x2, (h.cell xL).trans x3, (h.cell xL).trans x4, (h.cell xL).trans x5, (h.cell yL).trans y0, (h.cell yL).trans y1, (h.cell yL).trans y2, h⟩
            refine wp_region_held_drew (S := (fun x => x.cell? ⟨w.heap.size, 0, none⟩ = some (.slice (some ⟨p, o, none⟩) n c) ∧ x.cell? ⟨w.heap.size, 1, none⟩ = some (.int .i64 T) ∧ x.cell? ⟨w.heap.size, 2, none⟩ = some (.int .i64 N) ∧ x.cell? ⟨wr.heap.size, 0, none⟩ = some (.bool q.a.s) ∧ x.cell? ⟨wr.heap.size, 1, none⟩ = some (.int .i64 q.a.H.toInt) ∧ x.cell? ⟨wr.heap.size, 2, none⟩ = some (.int .i64 q.a.L.toInt) ∧ x.cell? ⟨wr.heap.size, 3, none⟩ = some (.string q.t) ∧ x.cell? ⟨wr.heap.size, 4, none⟩ = some (.int .i64 q.k) ∧ x.cell? ⟨wr.heap.size, 5, none⟩ = some (.int .i64 q.u) ∧ x.cell? ⟨p, o + J * 6, none⟩ = some (.bool r.a.s) ∧ x.cell? ⟨p, o + J * 6 + 1, none⟩ = some (.int .i64 r.a.H.toInt) ∧ x.cell? ⟨p, o + J * 6 + 2, none⟩ = some (.int .i64 r.a.L.toInt) ∧ Below W2.heap.size W2 x)) (by kernel_rfl) ?_ (fun hHeld => ?_)
            · try dsimp only
              exact HSx.out _ ((Below.refl _ _).drew)
            refine tkA 0 13 (v := ?_) rfl (by kernel_rfl) (fun _ _ _ h => h) (by rfl) ?_ (by assumption) ?_; rotate_left; · (intro w hSw; (try dsimp only at hSw); go_simp; try with_reducible rfl)
            simp only [pa]
            refine tkA 1 14 (v := ?_) rfl (by kernel_rfl) (fun _ _ _ h => h) (by rfl) ?_ (by assumption) ?_; rotate_left; · (intro w hSw; (try dsimp only at hSw); go_simp; try with_reducible rfl)
            simp only [pa]
            refine wpAnyH_ready (rs := [2]) (by kernel_rfl) (by simp) ?_
            refine AllReadyH.cons rfl (fun K hK => ?_) AllReadyH.nil
            go_simp
            go_wp2_with (first | (go_at_call 75; refine (HP1.out _).mono ?_; rintro e w2 ⟨rfl, hb2⟩; have b2 := (hHeld.2.2.2.2.2.2.2.2.2.2.2.2).trans (hb2.mono (hHeld.2.2.2.2.2.2.2.2.2.2.2.2).size)))
            refine hK.out _ _ ?_ (fun hHeld => ?_)
            · try dsimp only
              exact HSx.out _ b2
            clear hK K
            refine tkA 3 16 (v := ?_) rfl (by kernel_rfl) (fun _ _ _ h => h) (by rfl) ?_ (by assumption) ?_; rotate_left; · (intro w hSw; (try dsimp only at hSw); go_simp; try with_reducible rfl)
            simp only [pa]
            refine tkA 4 17 (v := ?_) rfl (by kernel_rfl) (fun _ _ _ h => h) (by rfl) ?_ (by assumption) ?_; rotate_left; · (intro w hSw; (try dsimp only at hSw); go_simp; try with_reducible rfl)
            simp only [pa]
            refine tkA 5 18 (v := ?_) rfl (by kernel_rfl) (fun _ _ _ h => h) (by rfl) ?_ (by assumption) ?_; rotate_left; · (intro w hSw; (try dsimp only at hSw); go_simp; try with_reducible rfl)
            simp only [pa]
            refine tkA 6 19 (v := ?_) rfl (by kernel_rfl) (fun _ _ _ h => h) (by rfl) ?_ (by assumption) ?_; rotate_left; · (intro w hSw; (try dsimp only at hSw); go_simp; try with_reducible rfl)
            simp only [pa]
            refine tkA 7 20 (v := ?_) rfl (by kernel_rfl) (fun _ _ _ h => h) (by rfl) ?_ (by assumption) ?_; rotate_left; · (intro w hSw; (try dsimp only at hSw); go_simp; try with_reducible rfl)
            simp only [pa]
            refine tkA 8 21 (v := ?_) rfl (by kernel_rfl) (fun _ _ _ h => h) (by rfl) ?_ (by assumption) ?_; rotate_left; · (intro w hSw; (try dsimp only at hSw); go_simp; try with_reducible rfl)
            simp only [pa]
            refine tkA 9 22 (v := ?_) rfl (by kernel_rfl) (fun _ _ _ h => h) (by rfl) ?_ (by assumption) ?_; rotate_left; · (intro w hSw; (try dsimp only at hSw); go_simp; try with_reducible rfl)
            simp only [pa]
            refine tkA 10 23 (v := ?_) rfl (by kernel_rfl) (fun _ _ _ h => h) (by rfl) ?_ (by assumption) ?_; rotate_left; · (intro w hSw; (try dsimp only at hSw); go_simp; try with_reducible rfl)
            simp only [pa]
            refine tkA 11 24 (v := ?_) rfl (by kernel_rfl) (fun _ _ _ h => h) (by rfl) ?_ (by assumption) ?_; rotate_left; · (intro w hSw; (try dsimp only at hSw); go_simp; try with_reducible rfl)
            simp only [pa]
            refine tkA 12 25 (v := ?_) rfl (by kernel_rfl) (fun _ _ _ h => h) (by rfl) ?_ (by assumption) ?_; rotate_left; · (intro w hSw; (try dsimp only at hSw); go_simp; try with_reducible rfl)
            simp only [pa]
            refine tkA 13 26 (v := ?_) rfl (by kernel_rfl) (fun _ _ _ h => h) (by rfl) ?_ (by assumption) ?_; rotate_left; · (intro w hSw; (try dsimp only at hSw); go_simp; try with_reducible rfl)
            simp only [pa]
            refine tkA 14 27 (v := ?_) rfl (by kernel_rfl) (fun _ _ _ h => h) (by rfl) ?_ (by assumption) ?_; rotate_left; · (intro w hSw; (try dsimp only at hSw); go_simp; try with_reducible rfl)
            simp only [pa]
            refine tkA 15 28 (v := ?_) rfl (by kernel_rfl) (fun _ _ _ h => h) (by rfl) ?_ (by assumption) ?_; rotate_left; · (intro w hSw; (try dsimp only at hSw); go_simp; try with_reducible rfl)
            simp only [pa]
            refine tkA 16 29 (v := ?_) rfl (by kernel_rfl) (fun _ _ _ h => h) (by rfl) ?_ (by assumption) ?_; rotate_left; · (intro w hSw; (try dsimp only at hSw); go_simp; try with_reducible rfl)
            simp only [pa]
            refine wpAnyH_ready (rs := [17]) (by kernel_rfl) (by simp) ?_
            refine AllReadyH.cons rfl (fun K hK => ?_) AllReadyH.nil
            go_simp
            go_wp2_with (first | (go_at_call 76; refine (HFo.out _).mono ?_; rintro e w3 ⟨rfl, hb3⟩; have b3 := (hHeld.2.2.2.2.2.2.2.2.2.2.2.2).trans (hb3.mono (hHeld.2.2.2.2.2.2.2.2.2.2.2.2).size)))
            refine hK.out _ _ ?_ (fun hHeld => ?_)
            · try dsimp only
              exact HSx.out _ b3
            clear hK K
            refine tkA 18 31 (v := ?_) rfl (by kernel_rfl) (fun _ _ _ h => h) (by rfl) ?_ (by assumption) ?_; rotate_left; · (intro w hSw; (try dsimp only at hSw); go_simp; try with_reducible rfl)
            simp only [pa]
            refine tkA 19 32 (v := ?_) rfl (by kernel_rfl) (fun _ _ _ h => h) (by rfl) ?_ (by assumption) ?_; rotate_left; · (intro w hSw; (try dsimp only at hSw); go_simp; try with_reducible rfl)
            simp only [pa]
            refine tkA 20 33 (v := ?_) rfl (by kernel_rfl) (fun _ _ _ h => h) (by rfl) ?_ (by assumption) ?_; rotate_left; · (intro w hSw; (try dsimp only at hSw); go_simp; try with_reducible rfl)
            simp only [pa]
            have HE := hidP (hHeld.2.2.2.2.2.2.2.2.2.2.2.2)
            refine wpAnyH_done (by kernel_rfl) ?_ _
            clear hHeld
            go_wp2_with fail
            go_ret
            exact ⟨ret_b HF.out.symm, HU.out.trans ((below_box HBel.out HBel.out.size HXB.out HE.out).mono HU.out.size)⟩
          · rw [hfo] at HPo2 hge
            have hge' : decide (0 ≤ z) = false := hge
            have HF : Hid (leasesF T N none ls = leasesF T N (some q.a) (ls.drop (k + 1))) := hidP (by rw [HPo2.out]; rfl)
            clear HPo2 hge hfo
            go_wp2_with fail
            obtain ⟨x0, x1, x2, x3, x4, x5⟩ := boxLs (q := q) wr 71
            have xB := alloc_below wr (.cells #[.bool q.a.s, .int .i64 q.a.H.toInt, .int .i64 q.a.L.toInt, .string q.t, .int .i64 q.k, .int .i64 q.u] 71)
            have xL := alloc_lt wr (.cells #[.bool q.a.s, .int .i64 q.a.H.toInt, .int .i64 q.a.L.toInt, .string q.t, .int .i64 q.k, .int .i64 q.u] 71)
            have xS : (wr.alloc (.cells #[.bool q.a.s, .int .i64 q.a.H.toInt, .int .i64 q.a.L.toInt, .string q.t, .int .i64 q.k, .int .i64 q.u] 71)).heap.size = wr.heap.size + 1 := by simp
            generalize wr.alloc (.cells #[.bool q.a.s, .int .i64 q.a.H.toInt, .int .i64 q.a.L.toInt, .string q.t, .int .i64 q.k, .int .i64 q.u] 71) = W2 at *
            have D0 := (xB.cell BL).trans B0
            have D1 := (xB.cell BL).trans B1
            have D2 := (xB.cell BL).trans B2
            have DL : w.heap.size < W2.heap.size := Nat.lt_of_lt_of_le BL xB.size
            have HXB := hidP xB
            clear xS
            have y0 := (xB.cell hpw).trans e0
            have y1 := (xB.cell hpw).trans e1
            have y2 := (xB.cell hpw).trans e2
            have yL : p < W2.heap.size := Nat.lt_of_lt_of_le hpw xB.size
            clear xB
            have HSx : Hid (∀ x, Below W2.heap.size W2 x → (x.cell? ⟨w.heap.size, 0, none⟩ = some (.slice (some ⟨p, o, none⟩) n c) ∧ x.cell? ⟨w.heap.size, 1, none⟩ = some (.int .i64 T) ∧ x.cell? ⟨w.heap.size, 2, none⟩ = some (.int .i64 N) ∧ x.cell? ⟨wr.heap.size, 0, none⟩ = some (.bool q.a.s) ∧ x.cell? ⟨wr.heap.size, 1, none⟩ = some (.int .i64 q.a.H.toInt) ∧ x.cell? ⟨wr.heap.size, 2, none⟩ = some (.int .i64 q.a.L.toInt) ∧ x.cell? ⟨wr.heap.size, 3, none⟩ = some (.string q.t) ∧ x.cell? ⟨wr.heap.size, 4, none⟩ = some (.int .i64 q.k) ∧ x.cell? ⟨wr.heap.size, 5, none⟩ = some (.int .i64 q.u) ∧ x.cell? ⟨p, o + J * 6, none⟩ = some (.bool r.a.s) ∧ x.cell? ⟨p, o + J * 6 + 1, none⟩ = some (.int .i64 r.a.H.toInt) ∧ x.cell? ⟨p, o + J * 6 + 2, none⟩ = some (.int .i64 r.a.L.toInt) ∧ Below W2.heap.size W2 x)) := hidP fun x h =>
              ⟨(h.cell DL).trans D0, (h.cell DL).trans D1, (h.cell DL).trans D2, (h.cell xL).trans x0, (h.cell xL).trans x1, (h.cell xL).trans x2, (h.cell xL).trans x3, (h.cell xL).trans x4, (h.cell xL).trans x5, (h.cell yL).trans y0, (h.cell yL).trans y1, (h.cell yL).trans y2, h⟩
            refine wp_region_held_drew (S := (fun x => x.cell? ⟨w.heap.size, 0, none⟩ = some (.slice (some ⟨p, o, none⟩) n c) ∧ x.cell? ⟨w.heap.size, 1, none⟩ = some (.int .i64 T) ∧ x.cell? ⟨w.heap.size, 2, none⟩ = some (.int .i64 N) ∧ x.cell? ⟨wr.heap.size, 0, none⟩ = some (.bool q.a.s) ∧ x.cell? ⟨wr.heap.size, 1, none⟩ = some (.int .i64 q.a.H.toInt) ∧ x.cell? ⟨wr.heap.size, 2, none⟩ = some (.int .i64 q.a.L.toInt) ∧ x.cell? ⟨wr.heap.size, 3, none⟩ = some (.string q.t) ∧ x.cell? ⟨wr.heap.size, 4, none⟩ = some (.int .i64 q.k) ∧ x.cell? ⟨wr.heap.size, 5, none⟩ = some (.int .i64 q.u) ∧ x.cell? ⟨p, o + J * 6, none⟩ = some (.bool r.a.s) ∧ x.cell? ⟨p, o + J * 6 + 1, none⟩ = some (.int .i64 r.a.H.toInt) ∧ x.cell? ⟨p, o + J * 6 + 2, none⟩ = some (.int .i64 r.a.L.toInt) ∧ Below W2.heap.size W2 x)) (by kernel_rfl) ?_ (fun hHeld => ?_)
            · try dsimp only
              exact HSx.out _ ((Below.refl _ _).drew)
            refine tkA 0 13 (v := ?_) rfl (by kernel_rfl) (fun _ _ _ h => h) (by rfl) ?_ (by assumption) ?_; rotate_left; · (intro w hSw; (try dsimp only at hSw); go_simp; try with_reducible rfl)
            simp only [pa]
            refine tkA 1 14 (v := ?_) rfl (by kernel_rfl) (fun _ _ _ h => h) (by rfl) ?_ (by assumption) ?_; rotate_left; · (intro w hSw; (try dsimp only at hSw); go_simp; try with_reducible rfl)
            simp only [pa]
            refine wpAnyH_ready (rs := [2]) (by kernel_rfl) (by simp) ?_
            refine AllReadyH.cons rfl (fun K hK => ?_) AllReadyH.nil
            go_simp
            go_wp2_with (first | (go_at_call 75; refine (HP1.out _).mono ?_; rintro e w2 ⟨rfl, hb2⟩; have b2 := (hHeld.2.2.2.2.2.2.2.2.2.2.2.2).trans (hb2.mono (hHeld.2.2.2.2.2.2.2.2.2.2.2.2).size)))
            refine hK.out _ _ ?_ (fun hHeld => ?_)
            · try dsimp only
              exact HSx.out _ b2
            clear hK K
            refine tkA 3 16 (v := ?_) rfl (by kernel_rfl) (fun _ _ _ h => h) (by rfl) ?_ (by assumption) ?_; rotate_left; · (intro w hSw; (try dsimp only at hSw); go_simp; try with_reducible rfl)
            simp only [pa]
            refine tkA 4 17 (v := ?_) rfl (by kernel_rfl) (fun _ _ _ h => h) (by rfl) ?_ (by assumption) ?_; rotate_left; · (intro w hSw; (try dsimp only at hSw); go_simp; try with_reducible rfl)
            simp only [pa]
            refine tkA 5 18 (v := ?_) rfl (by kernel_rfl) (fun _ _ _ h => h) (by rfl) ?_ (by assumption) ?_; rotate_left; · (intro w hSw; (try dsimp only at hSw); go_simp; try with_reducible rfl)
            simp only [pa]
            refine tkA 6 19 (v := ?_) rfl (by kernel_rfl) (fun _ _ _ h => h) (by rfl) ?_ (by assumption) ?_; rotate_left; · (intro w hSw; (try dsimp only at hSw); go_simp; try with_reducible rfl)
            simp only [pa]
            refine tkA 7 20 (v := ?_) rfl (by kernel_rfl) (fun _ _ _ h => h) (by rfl) ?_ (by assumption) ?_; rotate_left; · (intro w hSw; (try dsimp only at hSw); go_simp; try with_reducible rfl)
            simp only [pa]
            refine tkA 8 21 (v := ?_) rfl (by kernel_rfl) (fun _ _ _ h => h) (by rfl) ?_ (by assumption) ?_; rotate_left; · (intro w hSw; (try dsimp only at hSw); go_simp; try with_reducible rfl)
            simp only [pa]
            refine tkA 9 22 (v := ?_) rfl (by kernel_rfl) (fun _ _ _ h => h) (by rfl) ?_ (by assumption) ?_; rotate_left; · (intro w hSw; (try dsimp only at hSw); go_simp; try with_reducible rfl)
            simp only [pa]
            refine tkA 10 23 (v := ?_) rfl (by kernel_rfl) (fun _ _ _ h => h) (by rfl) ?_ (by assumption) ?_; rotate_left; · (intro w hSw; (try dsimp only at hSw); go_simp; try with_reducible rfl)
            simp only [pa]
            refine tkA 11 24 (v := ?_) rfl (by kernel_rfl) (fun _ _ _ h => h) (by rfl) ?_ (by assumption) ?_; rotate_left; · (intro w hSw; (try dsimp only at hSw); go_simp; try with_reducible rfl)
            simp only [pa]
            refine tkA 12 25 (v := ?_) rfl (by kernel_rfl) (fun _ _ _ h => h) (by rfl) ?_ (by assumption) ?_; rotate_left; · (intro w hSw; (try dsimp only at hSw); go_simp; try with_reducible rfl)
            simp only [pa]
            refine tkA 13 26 (v := ?_) rfl (by kernel_rfl) (fun _ _ _ h => h) (by rfl) ?_ (by assumption) ?_; rotate_left; · (intro w hSw; (try dsimp only at hSw); go_simp; try with_reducible rfl)
            simp only [pa]
            refine tkA 14 27 (v := ?_) rfl (by kernel_rfl) (fun _ _ _ h => h) (by rfl) ?_ (by assumption) ?_; rotate_left; · (intro w hSw; (try dsimp only at hSw); go_simp; try with_reducible rfl)
            simp only [pa]
            refine tkA 15 28 (v := ?_) rfl (by kernel_rfl) (fun _ _ _ h => h) (by rfl) ?_ (by assumption) ?_; rotate_left; · (intro w hSw; (try dsimp only at hSw); go_simp; try with_reducible rfl)
            simp only [pa]
            refine tkA 16 29 (v := ?_) rfl (by kernel_rfl) (fun _ _ _ h => h) (by rfl) ?_ (by assumption) ?_; rotate_left; · (intro w hSw; (try dsimp only at hSw); go_simp; try with_reducible rfl)
            simp only [pa]
            refine wpAnyH_ready (rs := [17]) (by kernel_rfl) (by simp) ?_
            refine AllReadyH.cons rfl (fun K hK => ?_) AllReadyH.nil
            go_simp
            go_wp2_with (first | (go_at_call 76; refine (HFo.out _).mono ?_; rintro e w3 ⟨rfl, hb3⟩; have b3 := (hHeld.2.2.2.2.2.2.2.2.2.2.2.2).trans (hb3.mono (hHeld.2.2.2.2.2.2.2.2.2.2.2.2).size)))
            refine hK.out _ _ ?_ (fun hHeld => ?_)
            · try dsimp only
              exact HSx.out _ b3
            clear hK K
            refine tkA 18 31 (v := ?_) rfl (by kernel_rfl) (fun _ _ _ h => h) (by rfl) ?_ (by assumption) ?_; rotate_left; · (intro w hSw; (try dsimp only at hSw); go_simp; try with_reducible rfl)
            simp only [pa]
            refine tkA 19 32 (v := ?_) rfl (by kernel_rfl) (fun _ _ _ h => h) (by rfl) ?_ (by assumption) ?_; rotate_left; · (intro w hSw; (try dsimp only at hSw); go_simp; try with_reducible rfl)
            simp only [pa]
            refine tkA 20 33 (v := ?_) rfl (by kernel_rfl) (fun _ _ _ h => h) (by rfl) ?_ (by assumption) ?_; rotate_left; · (intro w hSw; (try dsimp only at hSw); go_simp; try with_reducible rfl)
            simp only [pa]
            have HE := hidP (hHeld.2.2.2.2.2.2.2.2.2.2.2.2)
            refine wpAnyH_done (by kernel_rfl) ?_ _
            clear hHeld
            go_wp2_with fail
            go_roundw
            case rel => exact ⟨k + 1, by omega, by go_num, by rw [HF.out, HNx.out], (fun r h => by rw [HNx.out] at h; cases h; exact HOk.out), below_box HBel.out HBel.out.size HXB.out HE.out⟩
            case measure => simp [intOf]; omega
    · have HF : Hid (leasesF T N none ls = true) := by
        rw [List.drop_of_length_le (by have := HN.out; omega)] at hpo
        exact hidP hpo
      have HBel := hidP hbel
      clear hbel hpo hpr
      go_wp2_with fail
      go_ret
      exact ⟨ret_b HF.out.symm, HU.out.trans (HBel.out.mono HU.out.size)⟩

end Go.Proofs.YtplocbpngikohaaGreat
namespace Go.Proofs.YtplocbpngikohaaGreat
open Go.RowKit Go.Sort

def KI : Kd Int := ⟨1, fun x => [.int .i64 x], fun _ => rfl, fun x u h => by
  simp at h; subst h; rfl⟩
theorem Tryz.tyI : GTy KI (.int .i64 0) 8 Tryz.prog 132 3 := ⟨Tryz.underlying132, by kernel_rfl, rfl, by omega⟩
theorem rowI {w : World} {a : Option Addr} {ps : List Int} (h : RowG KI w a ps) (j : Nat) (hj : j < ps.length) : ∃ p o q, a = some ⟨p, o, none⟩ ∧ p < w.heap.size ∧ ps[j]? = some q ∧ w.cell? ⟨p, o + j, none⟩ = some (.int .i64 q) := by
  obtain ⟨p, o, q, ha, hp, hq, c⟩ := h j hj
  have := c 0 _ rfl
  rw [show KI.k = 1 from rfl, Nat.mul_one, Nat.add_zero] at this
  exact ⟨p, o, q, ha, hp, hq, this⟩
theorem rowI0 {w : World} {g n cap B : Nat} {t : TypeId} {ps : List Int} (h : OwnG KI t w B (.slice (some ⟨g, 0, none⟩) n cap) ps) (j : Nat) (hj : j < ps.length) : ∃ q, g < w.heap.size ∧ ps[j]? = some q ∧ w.cell? ⟨g, j, none⟩ = some (.int .i64 q) := by
  obtain ⟨p, o, q, ha, hp, hq, c0⟩ := rowI h.row j hj
  simp only [Option.some.injEq, Addr.mk.injEq, and_true] at ha
  obtain ⟨rfl, rfl⟩ := ha
  rw [Nat.zero_add] at c0
  exact ⟨q, hp, hq, c0⟩
theorem putI {t : TypeId} {w : World} {B g n cap : Nat} {ps : List Int} (h : OwnG KI t w B (.slice (some ⟨g, 0, none⟩) n cap) ps) (hn : n = ps.length) (j : Nat) (hj : j < n) (q : Int) :
    OwnG KI t (w.setCell ⟨g, j, none⟩ (.int .i64 q)) B (.slice (some ⟨g, 0, none⟩) n cap) (ps.set j q) := by
  have := h.put hn j hj q
  rw [show j * KI.k = j from Nat.mul_one j] at this
  exact this

theorem holdsI {w : World} {g n cap B : Nat} {t : TypeId} {ps : List Int} (h : OwnG KI t w B (.slice (some ⟨g, 0, none⟩) n cap) ps) : Holds (Value.int .i64) w g 0 ps.toArray := by
  intro j hj
  have hj' : j < ps.length := by simpa using hj
  obtain ⟨q, _, hq, c⟩ := rowI0 h j hj'
  refine ⟨?_, h.frozen _⟩
  rw [Nat.zero_add, c]
  congr 2
  rw [getElem!_pos ps.toArray j hj]
  rw [List.getElem?_eq_getElem hj'] at hq
  simpa using (Option.some.inj hq).symm
theorem below_sort {w w0 : World} {g B n : Nat} {os : Array Obj} {d : Array Int} (hb : Below B w0 w) (hB : B ≤ w.heap.size) (hg : B ≤ g) : Below B w0 (grow (putRow (Value.int .i64) (Sort.ahead w n) g 0 d) os) :=
  hb.grown (grownBy_sortedI d) hB (fun k hk => by cases hk; exact hg)
theorem below_put {w w0 : World} {g B n : Nat} {d : Array Int} (hb : Below B w0 w) (hB : B ≤ w.heap.size) (hg : B ≤ g) : Below B w0 (putRow (Value.int .i64) (Sort.ahead w n) g 0 d) := by
  have h := below_sort (n := n) (os := #[]) (d := d) hb hB hg
  rw [grow_empty] at h
  exact h
theorem holds_sorted {w : World} {g n : Nat} {os : Array Obj} {zs : List Int} (hg : g < w.heap.size) (h : Holds (Value.int .i64) w g 0 zs.toArray) : Holds (Value.int .i64) (grow (putRow (Value.int .i64) (Sort.ahead w n) g 0 (zs.mergeSort fun x y => decide (x ≤ y)).toArray) os) g 0 (zs.mergeSort fun x y => decide (x ≤ y)).toArray := by
  refine holds_grow _ _ _ _ _ _ (by simpa [putRow, mapBlock] using hg) ?_
  exact holds_putRow _ _ _ _ zs.toArray _ (holds_ahead _ _ _ _ _ _ h) (by simp)
theorem sortTok (g n c : Nat) (zs : List Int) (w : World) (hn : n = zs.length) (hH : Holds (Value.int .i64) w g 0 zs.toArray) (hg : g < w.heap.size) (hl : n ≤ 1048576) :
    Calls Tryz.prog 77 #[.slice (some ⟨g, 0, none⟩) n c] w fun e w' => e = .returned (.tuple #[]) ∧ Holds (Value.int .i64) w' g 0 (zs.mergeSort fun x y => decide (x ≤ y)).toArray ∧ g < w'.heap.size ∧ (∀ B w0, Below B w0 w → B ≤ w.heap.size → B ≤ g → Below B w0 w') := by
  subst hn
  refine (Tryz.slices_Sort_int g 0 c zs w hH hg (by omega)).mono ?_
  rintro e w' ⟨rfl, m, os, rfl⟩
  exact ⟨rfl, holds_sorted hg hH, by simp [grow, putRow, mapBlock]; omega, fun B w0 h1 h2 h3 => below_sort h1 h2 h3⟩
theorem compTok (g n c : Nat) (zs : List Int) (w : World) (hn : n = zs.length) (hH : Holds (Value.int .i64) w g 0 zs.toArray) (hl : n ≤ 1048576) (hc : n ≤ c) :
    Calls Tryz.prog 78 #[.slice (some ⟨g, 0, none⟩) n c] w fun e w' => e = .returned (.slice (some ⟨g, 0, none⟩) (Lib.compact zs).length c) ∧ (∀ B w0, Below B w0 w → B ≤ w.heap.size → B ≤ g → Below B w0 w') := by
  subst hn
  refine (Tryz.slices_Compact_int g 0 c zs w hH (by omega) hc).mono ?_
  rintro e w' ⟨rfl, m, rfl⟩
  exact ⟨rfl, fun B w0 h1 h2 h3 => below_put h1 h2 h3⟩

set_option maxRecDepth 10000 in
set_option maxHeartbeats 2000000 in
theorem tokensDiffer_any (a : Option Addr) (n c : Nat) (ls : List Ls) (w : World) (hn : n = ls.length) (hB : RowG KLs w a ls) (hl : n ≤ 1048576) :
    Calls Tryz.prog 52 #[.slice a n c] w fun e w' => e = .returned (.bool (tokB ls)) ∧ Below w.heap.size w w' := by
  obtain ⟨i0, hi, hz0, hz1, hz2⟩ := info_parts Tryz.tyI.2.1
  have HB := hidP hB
  have HN := hidP hn
  have HTk := hidP (tok_compact ls n hn)
  clear hB hn
  go_enter Tryz.func52, Tryz.ntmps52
  go_wp2_with (refine wpList_make_full _ rfl (.tmp 7) (.tmp 7) 132 rfl w.heap.size 3 i0 _ 1 Tryz.tyI.1 hi hz0 hz1 .i64 .i64 n n n rfl rfl rfl rfl (by rw [hz2]; omega) (by unfold maxLen; omega) (Nat.le_refl _) ?_; intro w1 hown hgrow)
  have HO : Hid (OwnG KI 3 w1 w.heap.size (.slice (some ⟨w.heap.size, 0, none⟩) n n) ((ls.map Ls.k).take 0 ++ List.replicate ((ls.map Ls.k).length - 0) 0)) := by
    have hm := made_gen KI 0 (by show 0 < 1; omega) (.int .i64 0) rfl n
    rw [show n * 1 = n * KI.k from rfl, hm] at hown
    refine hidP ?_
    unfold OwnG
    rw [Nat.sub_zero, List.take_zero, List.nil_append, List.length_replicate, List.length_map, ← HN.out]; exact hown
  have HW : Hid (Below w.heap.size w w1) := (Below.refl _ w).grown hgrow (Nat.le_refl _) (fun k hk => by cases hk)
  clear hown hgrow
  go_loopw [4, 5, 11] (fun _ _ t11 wr => ∃ k : Nat, k ≤ n ∧ t11 = .int .i64 k ∧ OwnG KI 3 wr w.heap.size (.slice (some ⟨w.heap.size, 0, none⟩) n n) ((ls.map Ls.k).take k ++ List.replicate ((ls.map Ls.k).length - k) 0) ∧ Below w.heap.size w wr) (fun _ _ t11 _ => n - (intOf t11).toNat)
  case atStart => exact ⟨0, Nat.zero_le _, rfl, HO.out, HW.out⟩
  case round =>
    obtain ⟨k, hk, rfl, hown, hbel⟩ := hrel
    by_cases hlt : k < n
    · obtain ⟨p, o, q, rfl, hp, hq, c0, c1, c2, c3, c4, c5⟩ := rowLs HB.out k (by rw [← HN.out]; exact hlt)
      have d0 := (hbel.cell hp).trans c0
      have d1 := (hbel.cell hp).trans c1
      have d2 := (hbel.cell hp).trans c2
      have d3 := (hbel.cell hp).trans c3
      have d4 := (hbel.cell hp).trans c4
      have d5 := (hbel.cell hp).trans c5
      have hq' : (ls.map Ls.k)[k]? = some q.k := by rw [List.getElem?_map, hq]; rfl
      have hlen : n = ((ls.map Ls.k).take k ++ List.replicate ((ls.map Ls.k).length - k) 0).length := by rw [List.length_append, List.length_take, List.length_replicate, List.length_map]; have := HN.out; omega
      have hfr := hown.frozen k
      obtain ⟨q0, hgl, _, cg⟩ := rowI0 hown k (by rw [← hlen]; exact hlt)
      have HOw := hidP hown
      have HBel := hidP hbel
      have HQ := hidP hq'
      have HL := hidP hlen
      clear hown hbel c0 c1 c2 c3 c4 c5 hq hq' HO HW hlen
      have hput := putI HOw.out HL.out k hlt q.k
      rw [copy_stepG 0 (ls.map Ls.k) k q.k (by rw [List.length_map, ← HN.out]; exact hlt) HQ.out] at hput
      have HP := hidP hput
      clear hput HOw
      go_wp2_with fail
      go_roundw
      case rel => exact ⟨k + 1, by omega, by go_num, HP.out.alloc _, (HBel.out.setCell (Nat.le_refl _) _).alloc (by simp; omega) _⟩
      case measure => simp [intOf]; omega
    · have hkn : k = n := by omega
      have HO2 : Hid (OwnG KI 3 wr w.heap.size (.slice (some ⟨w.heap.size, 0, none⟩) n n) (ls.map Ls.k)) := by
        have e := HN.out
        rw [hkn, List.take_of_length_le (by rw [List.length_map]; omega), List.length_map, ← e, Nat.sub_self, List.replicate_zero, List.append_nil] at hown
        exact hidP hown
      have HBel : Hid (Below w.heap.size w wr) := hbel
      have hgl : w.heap.size < wr.heap.size := (OwnG.lt HO2.out w.heap.size rfl).2
      clear hown hbel HO HW
      go_wp2_with fail
      refine (sortTok w.heap.size n n (ls.map Ls.k) wr (by rw [List.length_map]; exact HN.out) (holdsI HO2.out) hgl hl).mono ?_
      rintro e w2 ⟨rfl, hH2, hgl2, hb2⟩
      have B2 := hidP (hb2 _ _ HBel.out HBel.out.size (Nat.le_refl _))
      have H2 := hidP hH2
      clear hH2 hb2 HBel HO2
      go_wp2_with fail
      refine (compTok w.heap.size n n _ w2 (by rw [List.length_mergeSort, List.length_map]; exact HN.out) H2.out hl (Nat.le_refl _)).mono ?_
      rintro e w3 ⟨rfl, hb3⟩
      have B3 := hidP (hb3 _ _ B2.out B2.out.size (Nat.le_refl _))
      clear hb3
      go_wp2_with fail
      go_ret
      exact ⟨ret_b HTk.out, B3.out⟩

set_option maxRecDepth 10000 in
set_option maxHeartbeats 4000000 in
/-- The program's BookOk. -/
theorem iBookOk_any (a : Option Addr) (n c : Nat) (T N : Int) (ls : List Ls) (w : World) (hn : n = ls.length) (hB : RowG KLs w a ls) (hl : n ≤ 1048576) (hst : ∀ q ∈ ls, q.t.size ≤ 9223372036854775807) :
    Calls Tryz.prog 24 #[.agg #[.slice a n c, .int .i64 T, .int .i64 N]] w fun e w' => e = .returned (.bool (bkB ls T N)) ∧ Below w.heap.size w w' := by
  have HL := hidP (fun W h => leasesOk_any a n c T N ls W hn (hB.later h) (by omega) hst)
  have HT := hidP (fun W h => tokensDiffer_any a n c ls W hn (hB.later h) hl)
  have hv : bkB ls T N = ((decide ((n : Int) ≤ 80) && ((decide (0 ≤ T) && decide (T ≤ 1000000000)) && (decide (0 ≤ N) && decide (N ≤ 1000000000)))) && (leasesF T N none ls && tokB ls)) := by
    unfold bkB
    rw [← hn]
    congr 2
    by_cases h : n ≤ 80
    · rw [decide_eq_true h, decide_eq_true (by omega)]
    · rw [decide_eq_false h, decide_eq_false (by omega)]
  rw [hv]
  clear hv hB hn hst
  generalize leasesF T N none ls = F at *
  generalize tokB ls = K at *
  cases h0 : decide ((n : Int) ≤ 80)
  · have h0' : decide (n ≤ 80) = false := decide_eq_false (by have := of_decide_eq_false h0; omega)
    cases h1 : decide (0 ≤ T) <;> cases h3 : decide (0 ≤ N)
    all_goals
      go_enter Tryz.func24, Tryz.ntmps24
      go_wp2_with fail
      go_ret
      exact ⟨rfl, alloc_below w _⟩
  · have h0' : decide (n ≤ 80) = true := decide_eq_true (by have := of_decide_eq_true h0; omega)
    cases h1 : decide (0 ≤ T) <;> cases h2 : decide (T ≤ 1000000000) <;> cases h3 : decide (0 ≤ N) <;> cases h4 : decide (N ≤ 1000000000)
    all_goals try
      (go_enter Tryz.func24, Tryz.ntmps24
       go_wp2_with fail
       go_ret
       exact ⟨rfl, alloc_below w _⟩)
    cases F
    · go_enter Tryz.func24, Tryz.ntmps24
      go_wp2_with fail
      refine (HL.out _ (alloc_below w _)).mono ?_
      rintro e w2 ⟨rfl, hb2⟩
      have HB2 := hidP hb2
      clear hb2
      go_wp2_with fail
      go_ret
      exact ⟨rfl, (alloc_below w _).trans (HB2.out.mono (by simp))⟩
    · go_enter Tryz.func24, Tryz.ntmps24
      go_wp2_with fail
      refine (HL.out _ (alloc_below w _)).mono ?_
      rintro e w2 ⟨rfl, hb2⟩
      have hc : w2.cell? ⟨w.heap.size, 0, none⟩ = some (.slice a n c) := (hb2.cell (by simp)).trans (by simp [go_sem])
      have HB2 := hidP ((alloc_below w _).trans (hb2.mono (by simp)))
      clear hb2
      go_wp2_with fail
      refine (HT.out _ HB2.out).mono ?_
      rintro e w3 ⟨rfl, hb3⟩
      have HB3 := hidP (HB2.out.trans (hb3.mono HB2.out.size))
      clear hb3
      go_wp2_with fail
      go_ret
      exact ⟨rfl, HB3.out⟩

end Go.Proofs.YtplocbpngikohaaGreat
namespace Go.Proofs.YtplocbpngikohaaGreat
open Go.RowKit

set_option maxHeartbeats 1000000 in
theorem timeOk_any (u : Int) (w : World) :
    Calls Tryz.prog 102 #[.int .i64 u] w fun e w' => e = .returned (.bool (tmB u)) ∧ w' = w := by
  unfold tmB
  cases h1 : decide (0 ≤ u)
  · go_enter Tryz.func102, Tryz.ntmps102
    go_wp2
    go_ret
    exact ⟨rfl, rfl⟩
  · go_enter Tryz.func102, Tryz.ntmps102
    go_wp2
    go_ret
    exact ⟨rfl, rfl⟩
set_option maxHeartbeats 1000000 in
theorem l1In7_any (a b c : Int) (w : World) :
    Calls Tryz.prog 41 #[.int .i64 a, .int .i64 b, .int .i64 c] w fun e w' => e = .returned (.bool (decide (b ≤ a) && decide (a ≤ c))) ∧ w' = w := by
  cases h1 : decide (b ≤ a)
  · go_enter Tryz.func41, Tryz.ntmps41
    go_wp2
    go_ret
    exact ⟨rfl, rfl⟩
  · go_enter Tryz.func41, Tryz.ntmps41
    go_wp2
    go_ret
    exact ⟨rfl, rfl⟩
set_option maxRecDepth 10000 in
set_option maxHeartbeats 4000000 in
theorem sesOk_any (p o : Nat) (q : Ss) (w : World) (c1 : w.cell? ⟨p, o + 1, none⟩ = some (.int .i64 q.l)) (c2 : w.cell? ⟨p, o + 2, none⟩ = some (.string q.t)) (c3 : w.cell? ⟨p, o + 3, none⟩ = some (.int .i64 q.u)) :
    Calls Tryz.prog 79 #[.pointer (some ⟨p, o, none⟩)] w fun e w' => e = .returned (.bool (okSs q)) ∧ w' = w := by
  have HT := hidP (timeOk_any q.u)
  unfold okSs emB

  generalize tmB q.u = T at *
  cases h1 : decide (0 ≤ q.l) <;> cases h3 : decide ((q.t.size : Int) ≤ 200) <;> cases h4 : decide (0 < q.l) <;> cases h5 : q.t.toList.isEmpty
  all_goals
    cases h2 : decide (q.l ≤ 1000000)
    all_goals
      go_enter Tryz.func79, Tryz.ntmps79
      go_wp2_with fail
      first
      | (go_ret; exact ⟨rfl, rfl⟩)
      | (refine (HT.out _).mono ?_; rintro e w2 ⟨rfl, rfl⟩; go_wp2_with fail; go_ret; exact ⟨rfl, rfl⟩)

end Go.Proofs.YtplocbpngikohaaGreat
namespace Go.Proofs.YtplocbpngikohaaGreat
open Go.RowKit

theorem boxSs {q : Ss} (w : World) (t : TypeId) : (w.alloc (.cells #[.int .i64 q.i, .int .i64 q.l, .string q.t, .int .i64 q.u] t)).cell? ⟨w.heap.size, 0, none⟩ = some (.int .i64 q.i) ∧ (w.alloc (.cells #[.int .i64 q.i, .int .i64 q.l, .string q.t, .int .i64 q.u] t)).cell? ⟨w.heap.size, 1, none⟩ = some (.int .i64 q.l) ∧ (w.alloc (.cells #[.int .i64 q.i, .int .i64 q.l, .string q.t, .int .i64 q.u] t)).cell? ⟨w.heap.size, 2, none⟩ = some (.string q.t) ∧ (w.alloc (.cells #[.int .i64 q.i, .int .i64 q.l, .string q.t, .int .i64 q.u] t)).cell? ⟨w.heap.size, 3, none⟩ = some (.int .i64 q.u) := by
  have h := own_oneG KSs w 0 t q (Nat.zero_le _)
  exact ⟨World.ownsRow.cellAt h 0 (by show 0 < 1 * 4; omega), World.ownsRow.cellAt h 1 (by show 1 < 1 * 4; omega), World.ownsRow.cellAt h 2 (by show 2 < 1 * 4; omega), World.ownsRow.cellAt h 3 (by show 3 < 1 * 4; omega)⟩
theorem below_box7 {B : Nat} {w wr W x : World} (h1 : Below B w wr) (hB : B ≤ wr.heap.size) (h2 : Below wr.heap.size wr W) (h3 : Below W.heap.size W x) : Below B w x :=
  (h1.trans (h2.mono hB)).trans (h3.mono (Nat.le_trans hB h2.size))
set_option maxRecDepth 10000 in
set_option maxHeartbeats 2000000 in
theorem sessionsOk_any (b : Nat) (a : Option Addr) (n c : Nat) (N : Int) (ls : List Ss) (w : World) (hn : n = ls.length) (hB : RowG KSs w a ls) (hl : n ≤ 9000000000) (bL : b < w.heap.size) (b0 : w.cell? ⟨b, 0, none⟩ = some (.slice a n c)) (b1 : w.cell? ⟨b, 1, none⟩ = some (.int .i64 N)) :
    Calls Tryz.prog 53 #[.pointer (some ⟨b, 0, none⟩)] w fun e w' => e = .returned (.bool (sesF N 0 ls)) ∧ Below w.heap.size w w' := by
  have HR := hidP hB
  have HN := hidP hn
  clear hB hn
  go_enter Tryz.func53, Tryz.ntmps53
  go_wp2_with fail
  go_loopw [3, 5, 11] (fun t3 _ t11 wr => ∃ k : Nat, k ≤ n ∧ t11 = .int .i64 k ∧ t3 = .int .i64 (prvS ls k) ∧ sesF N 0 ls = sesF N (prvS ls k) (ls.drop k) ∧ Below w.heap.size w wr) (fun _ _ t11 _ => n - (intOf t11).toNat)
  case atStart => exact ⟨0, Nat.zero_le _, rfl, rfl, rfl, Below.refl _ _⟩
  case round =>
    obtain ⟨k, hk, rfl, rfl, hpo, hbel⟩ := hrel
    have B0 := (hbel.cell bL).trans b0
    have B1 := (hbel.cell bL).trans b1
    have BL : b < wr.heap.size := Nat.lt_of_lt_of_le bL hbel.size
    by_cases hlt : k < n
    · obtain ⟨p, o, q, rfl, hp, hq, c0, c1, c2, c3⟩ := rowSs HR.out k (by rw [← HN.out]; exact hlt)
      have d0 := (hbel.cell hp).trans c0
      have d1 := (hbel.cell hp).trans c1
      have d2 := (hbel.cell hp).trans c2
      have d3 := (hbel.cell hp).trans c3
      rw [drop_at7 hq] at hpo
      have hpo' : sesF N 0 ls = (((decide (prvS ls k < q.i) && decide (q.i < N)) && okSs q) && sesF N q.i (ls.drop (k + 1))) := hpo
      have HNx := hidP (prvS_next hq)
      have HPo := hidP hpo'
      have HBel := hidP hbel
      clear c0 c1 c2 c3 hq hpo hpo' hbel b0 b1
      generalize prvS ls k = L at *
      cases g1 : decide (q.i ≤ L)
      · have g1' : decide (L < q.i) = true := decide_eq_true (by have := of_decide_eq_false g1; omega)
        rw [g1'] at HPo
        cases g2 : decide (N ≤ q.i)
        · have g2' : decide (q.i < N) = true := decide_eq_true (by have := of_decide_eq_false g2; omega)
          rw [g2'] at HPo
          have HOK := hidP (fun p w c1 c2 c3 => sesOk_any p 0 q w c1 c2 c3)
          clear g1' g2'
          cases hok : okSs q
          · rw [hok] at HOK HPo
            have HF : Hid (sesF N 0 ls = false) := hidP (by rw [HPo.out]; rfl)
            clear HPo
            go_wp2_with fail
            obtain ⟨x0, x1, x2, x3⟩ := boxSs (q := q) wr 96
            have xB := alloc_below wr (.cells #[.int .i64 q.i, .int .i64 q.l, .string q.t, .int .i64 q.u] 96)
            have xL := alloc_lt wr (.cells #[.int .i64 q.i, .int .i64 q.l, .string q.t, .int .i64 q.u] 96)
            have xS : (wr.alloc (.cells #[.int .i64 q.i, .int .i64 q.l, .string q.t, .int .i64 q.u] 96)).heap.size = wr.heap.size + 1 := by simp
            generalize wr.alloc (.cells #[.int .i64 q.i, .int .i64 q.l, .string q.t, .int .i64 q.u] 96) = W2 at *
            have D0 := (xB.cell BL).trans B0
            have D1 := (xB.cell BL).trans B1
            have DL : b < W2.heap.size := Nat.lt_of_lt_of_le BL xB.size
            have HXB := hidP xB
            clear xS xB
            have HSx : Hid (∀ x, Below W2.heap.size W2 x → (x.cell? ⟨b, 0, none⟩ = some (.slice (some ⟨p, o, none⟩) n c) ∧ x.cell? ⟨b, 1, none⟩ = some (.int .i64 N) ∧ x.cell? ⟨wr.heap.size, 0, none⟩ = some (.int .i64 q.i) ∧ x.cell? ⟨wr.heap.size, 1, none⟩ = some (.int .i64 q.l) ∧ x.cell? ⟨wr.heap.size, 2, none⟩ = some (.string q.t) ∧ x.cell? ⟨wr.heap.size, 3, none⟩ = some (.int .i64 q.u) ∧ Below W2.heap.size W2 x)) := hidP fun x h =>
              ⟨(h.cell DL).trans D0, (h.cell DL).trans D1, (h.cell xL).trans x0, (h.cell xL).trans x1, (h.cell xL).trans x2, (h.cell xL).trans x3, h⟩
            refine wp_region_held_drew (S := (fun x => x.cell? ⟨b, 0, none⟩ = some (.slice (some ⟨p, o, none⟩) n c) ∧ x.cell? ⟨b, 1, none⟩ = some (.int .i64 N) ∧ x.cell? ⟨wr.heap.size, 0, none⟩ = some (.int .i64 q.i) ∧ x.cell? ⟨wr.heap.size, 1, none⟩ = some (.int .i64 q.l) ∧ x.cell? ⟨wr.heap.size, 2, none⟩ = some (.string q.t) ∧ x.cell? ⟨wr.heap.size, 3, none⟩ = some (.int .i64 q.u) ∧ Below W2.heap.size W2 x)) (by kernel_rfl) ?_ (fun hHeld => ?_)
            · try dsimp only
              exact HSx.out _ ((Below.refl _ _).drew)
            refine tkA 0 15 (v := ?_) rfl (by kernel_rfl) (fun _ _ _ h => h) (by rfl) ?_ (by assumption) ?_; rotate_left; · (intro w hSw; (try dsimp only at hSw); go_simp; try with_reducible rfl)
            simp only [pa]
            refine tkA 1 16 (v := ?_) rfl (by kernel_rfl) (fun _ _ _ h => h) (by rfl) ?_ (by assumption) ?_; rotate_left; · (intro w hSw; (try dsimp only at hSw); go_simp; try with_reducible rfl)
            simp only [pa]
            refine tkA 2 17 (v := ?_) rfl (by kernel_rfl) (fun _ _ _ h => h) (by rfl) ?_ (by assumption) ?_; rotate_left; · (intro w hSw; (try dsimp only at hSw); go_simp; try with_reducible rfl)
            simp only [pa]
            refine tkA 3 18 (v := ?_) rfl (by kernel_rfl) (fun _ _ _ h => h) (by rfl) ?_ (by assumption) ?_; rotate_left; · (intro w hSw; (try dsimp only at hSw); go_simp; try with_reducible rfl)
            simp only [pa]
            refine tkA 4 19 (v := ?_) rfl (by kernel_rfl) (fun _ _ _ h => h) (by rfl) ?_ (by assumption) ?_; rotate_left; · (intro w hSw; (try dsimp only at hSw); go_simp; try with_reducible rfl)
            simp only [pa]
            refine tkA 5 20 (v := ?_) rfl (by kernel_rfl) (fun _ _ _ h => h) (by rfl) ?_ (by assumption) ?_; rotate_left; · (intro w hSw; (try dsimp only at hSw); go_simp; try with_reducible rfl)
            simp only [pa]
            refine tkA 6 21 (v := ?_) rfl (by kernel_rfl) (fun _ _ _ h => h) (by rfl) ?_ (by assumption) ?_; rotate_left; · (intro w hSw; (try dsimp only at hSw); go_simp; try with_reducible rfl)
            simp only [pa]
            refine tkA 7 22 (v := ?_) rfl (by kernel_rfl) (fun _ _ _ h => h) (by rfl) ?_ (by assumption) ?_; rotate_left; · (intro w hSw; (try dsimp only at hSw); go_simp; try with_reducible rfl)
            simp only [pa]
            refine tkA 8 23 (v := ?_) rfl (by kernel_rfl) (fun _ _ _ h => h) (by rfl) ?_ (by assumption) ?_; rotate_left; · (intro w hSw; (try dsimp only at hSw); go_simp; try with_reducible rfl)
            simp only [pa]
            refine tkA 9 24 (v := ?_) rfl (by kernel_rfl) (fun _ _ _ h => h) (by rfl) ?_ (by assumption) ?_; rotate_left; · (intro w hSw; (try dsimp only at hSw); go_simp; try with_reducible rfl)
            simp only [pa]
            refine tkA 10 25 (v := ?_) rfl (by kernel_rfl) (fun _ _ _ h => h) (by rfl) ?_ (by assumption) ?_; rotate_left; · (intro w hSw; (try dsimp only at hSw); go_simp; try with_reducible rfl)
            simp only [pa]
            refine tkA 11 26 (v := ?_) rfl (by kernel_rfl) (fun _ _ _ h => h) (by rfl) ?_ (by assumption) ?_; rotate_left; · (intro w hSw; (try dsimp only at hSw); go_simp; try with_reducible rfl)
            simp only [pa]
            refine tkA 12 27 (v := ?_) rfl (by kernel_rfl) (fun _ _ _ h => h) (by rfl) ?_ (by assumption) ?_; rotate_left; · (intro w hSw; (try dsimp only at hSw); go_simp; try with_reducible rfl)
            simp only [pa]
            refine tkA 13 28 (v := ?_) rfl (by kernel_rfl) (fun _ _ _ h => h) (by rfl) ?_ (by assumption) ?_; rotate_left; · (intro w hSw; (try dsimp only at hSw); go_simp; try with_reducible rfl)
            simp only [pa]
            refine wpAnyH_ready (rs := [14]) (by kernel_rfl) (by simp) ?_
            refine AllReadyH.cons rfl (fun K hK => ?_) AllReadyH.nil
            go_simp
            go_wp2_with (first | (go_at_call 79; refine (HOK.out _ _ hHeld.2.2.2.1 hHeld.2.2.2.2.1 hHeld.2.2.2.2.2.1).mono ?_; rintro e w' ⟨rfl, rfl⟩))
            refine hK.out _ _ ?_ (fun hHeld => ?_)
            · try dsimp only
              exact HSx.out _ (hHeld.2.2.2.2.2.2)
            clear hK K
            refine tkA 15 30 (v := ?_) rfl (by kernel_rfl) (fun _ _ _ h => h) (by rfl) ?_ (by assumption) ?_; rotate_left; · (intro w hSw; (try dsimp only at hSw); go_simp; try with_reducible rfl)
            simp only [pa]
            refine tkA 16 31 (v := ?_) rfl (by kernel_rfl) (fun _ _ _ h => h) (by rfl) ?_ (by assumption) ?_; rotate_left; · (intro w hSw; (try dsimp only at hSw); go_simp; try with_reducible rfl)
            simp only [pa]
            have HE := hidP (hHeld.2.2.2.2.2.2)
            refine wpAnyH_done (by kernel_rfl) ?_ _
            clear hHeld
            go_wp2_with fail
            go_ret
            exact ⟨ret_b7 HF.out.symm, below_box7 HBel.out HBel.out.size HXB.out HE.out⟩
          · rw [hok] at HOK HPo
            have HF : Hid (sesF N 0 ls = sesF N q.i (ls.drop (k + 1))) := hidP (by rw [HPo.out]; rfl)
            clear HPo
            go_wp2_with fail
            obtain ⟨x0, x1, x2, x3⟩ := boxSs (q := q) wr 96
            have xB := alloc_below wr (.cells #[.int .i64 q.i, .int .i64 q.l, .string q.t, .int .i64 q.u] 96)
            have xL := alloc_lt wr (.cells #[.int .i64 q.i, .int .i64 q.l, .string q.t, .int .i64 q.u] 96)
            have xS : (wr.alloc (.cells #[.int .i64 q.i, .int .i64 q.l, .string q.t, .int .i64 q.u] 96)).heap.size = wr.heap.size + 1 := by simp
            generalize wr.alloc (.cells #[.int .i64 q.i, .int .i64 q.l, .string q.t, .int .i64 q.u] 96) = W2 at *
            have D0 := (xB.cell BL).trans B0
            have D1 := (xB.cell BL).trans B1
            have DL : b < W2.heap.size := Nat.lt_of_lt_of_le BL xB.size
            have HXB := hidP xB
            clear xS xB
            have HSx : Hid (∀ x, Below W2.heap.size W2 x → (x.cell? ⟨b, 0, none⟩ = some (.slice (some ⟨p, o, none⟩) n c) ∧ x.cell? ⟨b, 1, none⟩ = some (.int .i64 N) ∧ x.cell? ⟨wr.heap.size, 0, none⟩ = some (.int .i64 q.i) ∧ x.cell? ⟨wr.heap.size, 1, none⟩ = some (.int .i64 q.l) ∧ x.cell? ⟨wr.heap.size, 2, none⟩ = some (.string q.t) ∧ x.cell? ⟨wr.heap.size, 3, none⟩ = some (.int .i64 q.u) ∧ Below W2.heap.size W2 x)) := hidP fun x h =>
              ⟨(h.cell DL).trans D0, (h.cell DL).trans D1, (h.cell xL).trans x0, (h.cell xL).trans x1, (h.cell xL).trans x2, (h.cell xL).trans x3, h⟩
            refine wp_region_held_drew (S := (fun x => x.cell? ⟨b, 0, none⟩ = some (.slice (some ⟨p, o, none⟩) n c) ∧ x.cell? ⟨b, 1, none⟩ = some (.int .i64 N) ∧ x.cell? ⟨wr.heap.size, 0, none⟩ = some (.int .i64 q.i) ∧ x.cell? ⟨wr.heap.size, 1, none⟩ = some (.int .i64 q.l) ∧ x.cell? ⟨wr.heap.size, 2, none⟩ = some (.string q.t) ∧ x.cell? ⟨wr.heap.size, 3, none⟩ = some (.int .i64 q.u) ∧ Below W2.heap.size W2 x)) (by kernel_rfl) ?_ (fun hHeld => ?_)
            · try dsimp only
              exact HSx.out _ ((Below.refl _ _).drew)
            refine tkA 0 15 (v := ?_) rfl (by kernel_rfl) (fun _ _ _ h => h) (by rfl) ?_ (by assumption) ?_; rotate_left; · (intro w hSw; (try dsimp only at hSw); go_simp; try with_reducible rfl)
            simp only [pa]
            refine tkA 1 16 (v := ?_) rfl (by kernel_rfl) (fun _ _ _ h => h) (by rfl) ?_ (by assumption) ?_; rotate_left; · (intro w hSw; (try dsimp only at hSw); go_simp; try with_reducible rfl)
            simp only [pa]
            refine tkA 2 17 (v := ?_) rfl (by kernel_rfl) (fun _ _ _ h => h) (by rfl) ?_ (by assumption) ?_; rotate_left; · (intro w hSw; (try dsimp only at hSw); go_simp; try with_reducible rfl)
            simp only [pa]
            refine tkA 3 18 (v := ?_) rfl (by kernel_rfl) (fun _ _ _ h => h) (by rfl) ?_ (by assumption) ?_; rotate_left; · (intro w hSw; (try dsimp only at hSw); go_simp; try with_reducible rfl)
            simp only [pa]
            refine tkA 4 19 (v := ?_) rfl (by kernel_rfl) (fun _ _ _ h => h) (by rfl) ?_ (by assumption) ?_; rotate_left; · (intro w hSw; (try dsimp only at hSw); go_simp; try with_reducible rfl)
            simp only [pa]
            refine tkA 5 20 (v := ?_) rfl (by kernel_rfl) (fun _ _ _ h => h) (by rfl) ?_ (by assumption) ?_; rotate_left; · (intro w hSw; (try dsimp only at hSw); go_simp; try with_reducible rfl)
            simp only [pa]
            refine tkA 6 21 (v := ?_) rfl (by kernel_rfl) (fun _ _ _ h => h) (by rfl) ?_ (by assumption) ?_; rotate_left; · (intro w hSw; (try dsimp only at hSw); go_simp; try with_reducible rfl)
            simp only [pa]
            refine tkA 7 22 (v := ?_) rfl (by kernel_rfl) (fun _ _ _ h => h) (by rfl) ?_ (by assumption) ?_; rotate_left; · (intro w hSw; (try dsimp only at hSw); go_simp; try with_reducible rfl)
            simp only [pa]
            refine tkA 8 23 (v := ?_) rfl (by kernel_rfl) (fun _ _ _ h => h) (by rfl) ?_ (by assumption) ?_; rotate_left; · (intro w hSw; (try dsimp only at hSw); go_simp; try with_reducible rfl)
            simp only [pa]
            refine tkA 9 24 (v := ?_) rfl (by kernel_rfl) (fun _ _ _ h => h) (by rfl) ?_ (by assumption) ?_; rotate_left; · (intro w hSw; (try dsimp only at hSw); go_simp; try with_reducible rfl)
            simp only [pa]
            refine tkA 10 25 (v := ?_) rfl (by kernel_rfl) (fun _ _ _ h => h) (by rfl) ?_ (by assumption) ?_; rotate_left; · (intro w hSw; (try dsimp only at hSw); go_simp; try with_reducible rfl)
            simp only [pa]
            refine tkA 11 26 (v := ?_) rfl (by kernel_rfl) (fun _ _ _ h => h) (by rfl) ?_ (by assumption) ?_; rotate_left; · (intro w hSw; (try dsimp only at hSw); go_simp; try with_reducible rfl)
            simp only [pa]
            refine tkA 12 27 (v := ?_) rfl (by kernel_rfl) (fun _ _ _ h => h) (by rfl) ?_ (by assumption) ?_; rotate_left; · (intro w hSw; (try dsimp only at hSw); go_simp; try with_reducible rfl)
            simp only [pa]
            refine tkA 13 28 (v := ?_) rfl (by kernel_rfl) (fun _ _ _ h => h) (by rfl) ?_ (by assumption) ?_; rotate_left; · (intro w hSw; (try dsimp only at hSw); go_simp; try with_reducible rfl)
            simp only [pa]
            refine wpAnyH_ready (rs := [14]) (by kernel_rfl) (by simp) ?_
            refine AllReadyH.cons rfl (fun K hK => ?_) AllReadyH.nil
            go_simp
            go_wp2_with (first | (go_at_call 79; refine (HOK.out _ _ hHeld.2.2.2.1 hHeld.2.2.2.2.1 hHeld.2.2.2.2.2.1).mono ?_; rintro e w' ⟨rfl, rfl⟩))
            refine hK.out _ _ ?_ (fun hHeld => ?_)
            · try dsimp only
              exact HSx.out _ (hHeld.2.2.2.2.2.2)
            clear hK K
            refine tkA 15 30 (v := ?_) rfl (by kernel_rfl) (fun _ _ _ h => h) (by rfl) ?_ (by assumption) ?_; rotate_left; · (intro w hSw; (try dsimp only at hSw); go_simp; try with_reducible rfl)
            simp only [pa]
            refine tkA 16 31 (v := ?_) rfl (by kernel_rfl) (fun _ _ _ h => h) (by rfl) ?_ (by assumption) ?_; rotate_left; · (intro w hSw; (try dsimp only at hSw); go_simp; try with_reducible rfl)
            simp only [pa]
            have HE := hidP (hHeld.2.2.2.2.2.2)
            refine wpAnyH_done (by kernel_rfl) ?_ _
            clear hHeld
            go_wp2_with fail
            have v0 := (HE.out.cell xL).trans x0
            go_wp2_with fail
            go_roundw
            case rel => exact ⟨k + 1, by omega, by go_num, by rw [HNx.out], by rw [HF.out, HNx.out], below_box7 HBel.out HBel.out.size HXB.out HE.out⟩
            case measure => simp [intOf]; omega
        · have g2' : decide (q.i < N) = false := decide_eq_false (by have := of_decide_eq_true g2; omega)
          have HF : Hid (sesF N 0 ls = false) := hidP (by rw [HPo.out, g2']; rfl)
          clear HPo g1' g2'
          go_wp2_with fail
          obtain ⟨x0, x1, x2, x3⟩ := boxSs (q := q) wr 96
          have xB := alloc_below wr (.cells #[.int .i64 q.i, .int .i64 q.l, .string q.t, .int .i64 q.u] 96)
          have xL := alloc_lt wr (.cells #[.int .i64 q.i, .int .i64 q.l, .string q.t, .int .i64 q.u] 96)
          have xS : (wr.alloc (.cells #[.int .i64 q.i, .int .i64 q.l, .string q.t, .int .i64 q.u] 96)).heap.size = wr.heap.size + 1 := by simp
          generalize wr.alloc (.cells #[.int .i64 q.i, .int .i64 q.l, .string q.t, .int .i64 q.u] 96) = W2 at *
          have D0 := (xB.cell BL).trans B0
          have D1 := (xB.cell BL).trans B1
          have DL : b < W2.heap.size := Nat.lt_of_lt_of_le BL xB.size
          have HXB := hidP xB
          clear xS xB
          have HSx : Hid (∀ x, Below W2.heap.size W2 x → (x.cell? ⟨b, 0, none⟩ = some (.slice (some ⟨p, o, none⟩) n c) ∧ x.cell? ⟨b, 1, none⟩ = some (.int .i64 N) ∧ x.cell? ⟨wr.heap.size, 0, none⟩ = some (.int .i64 q.i) ∧ x.cell? ⟨wr.heap.size, 1, none⟩ = some (.int .i64 q.l) ∧ x.cell? ⟨wr.heap.size, 2, none⟩ = some (.string q.t) ∧ x.cell? ⟨wr.heap.size, 3, none⟩ = some (.int .i64 q.u) ∧ Below W2.heap.size W2 x)) := hidP fun x h =>
            ⟨(h.cell DL).trans D0, (h.cell DL).trans D1, (h.cell xL).trans x0, (h.cell xL).trans x1, (h.cell xL).trans x2, (h.cell xL).trans x3, h⟩
          refine wp_region_held_drew (S := (fun x => x.cell? ⟨b, 0, none⟩ = some (.slice (some ⟨p, o, none⟩) n c) ∧ x.cell? ⟨b, 1, none⟩ = some (.int .i64 N) ∧ x.cell? ⟨wr.heap.size, 0, none⟩ = some (.int .i64 q.i) ∧ x.cell? ⟨wr.heap.size, 1, none⟩ = some (.int .i64 q.l) ∧ x.cell? ⟨wr.heap.size, 2, none⟩ = some (.string q.t) ∧ x.cell? ⟨wr.heap.size, 3, none⟩ = some (.int .i64 q.u) ∧ Below W2.heap.size W2 x)) (by kernel_rfl) ?_ (fun hHeld => ?_)
          · try dsimp only
            exact HSx.out _ ((Below.refl _ _).drew)
          refine tkA 0 15 (v := ?_) rfl (by kernel_rfl) (fun _ _ _ h => h) (by rfl) ?_ (by assumption) ?_; rotate_left; · (intro w hSw; (try dsimp only at hSw); go_simp; try with_reducible rfl)
          simp only [pa]
          refine tkA 1 16 (v := ?_) rfl (by kernel_rfl) (fun _ _ _ h => h) (by rfl) ?_ (by assumption) ?_; rotate_left; · (intro w hSw; (try dsimp only at hSw); go_simp; try with_reducible rfl)
          simp only [pa]
          refine tkA 2 17 (v := ?_) rfl (by kernel_rfl) (fun _ _ _ h => h) (by rfl) ?_ (by assumption) ?_; rotate_left; · (intro w hSw; (try dsimp only at hSw); go_simp; try with_reducible rfl)
          simp only [pa]
          refine tkA 3 18 (v := ?_) rfl (by kernel_rfl) (fun _ _ _ h => h) (by rfl) ?_ (by assumption) ?_; rotate_left; · (intro w hSw; (try dsimp only at hSw); go_simp; try with_reducible rfl)
          simp only [pa]
          refine tkA 4 19 (v := ?_) rfl (by kernel_rfl) (fun _ _ _ h => h) (by rfl) ?_ (by assumption) ?_; rotate_left; · (intro w hSw; (try dsimp only at hSw); go_simp; try with_reducible rfl)
          simp only [pa]
          refine tkA 5 20 (v := ?_) rfl (by kernel_rfl) (fun _ _ _ h => h) (by rfl) ?_ (by assumption) ?_; rotate_left; · (intro w hSw; (try dsimp only at hSw); go_simp; try with_reducible rfl)
          simp only [pa]
          refine tkA 6 21 (v := ?_) rfl (by kernel_rfl) (fun _ _ _ h => h) (by rfl) ?_ (by assumption) ?_; rotate_left; · (intro w hSw; (try dsimp only at hSw); go_simp; try with_reducible rfl)
          simp only [pa]
          refine tkA 7 22 (v := ?_) rfl (by kernel_rfl) (fun _ _ _ h => h) (by rfl) ?_ (by assumption) ?_; rotate_left; · (intro w hSw; (try dsimp only at hSw); go_simp; try with_reducible rfl)
          simp only [pa]
          refine tkA 8 23 (v := ?_) rfl (by kernel_rfl) (fun _ _ _ h => h) (by rfl) ?_ (by assumption) ?_; rotate_left; · (intro w hSw; (try dsimp only at hSw); go_simp; try with_reducible rfl)
          simp only [pa]
          refine tkA 9 24 (v := ?_) rfl (by kernel_rfl) (fun _ _ _ h => h) (by rfl) ?_ (by assumption) ?_; rotate_left; · (intro w hSw; (try dsimp only at hSw); go_simp; try with_reducible rfl)
          simp only [pa]
          refine tkA 10 25 (v := ?_) rfl (by kernel_rfl) (fun _ _ _ h => h) (by rfl) ?_ (by assumption) ?_; rotate_left; · (intro w hSw; (try dsimp only at hSw); go_simp; try with_reducible rfl)
          simp only [pa]
          refine tkA 11 26 (v := ?_) rfl (by kernel_rfl) (fun _ _ _ h => h) (by rfl) ?_ (by assumption) ?_; rotate_left; · (intro w hSw; (try dsimp only at hSw); go_simp; try with_reducible rfl)
          simp only [pa]
          refine tkA 12 27 (v := ?_) rfl (by kernel_rfl) (fun _ _ _ h => h) (by rfl) ?_ (by assumption) ?_; rotate_left; · (intro w hSw; (try dsimp only at hSw); go_simp; try with_reducible rfl)
          simp only [pa]
          refine tkA 13 28 (v := ?_) rfl (by kernel_rfl) (fun _ _ _ h => h) (by rfl) ?_ (by assumption) ?_; rotate_left; · (intro w hSw; (try dsimp only at hSw); go_simp; try with_reducible rfl)
          simp only [pa]
          refine wpAnyH_take (i := 14) (oi := ⟨some 29, _, _, _, _, _⟩) (v := undef) rfl (by kernel_rfl) (by kernel_rfl) (by kernel_rfl) (fun _ _ _ h => h) (Or.inr ⟨by rfl, rfl⟩) (by assumption) ?_
          simp only [pa]
          refine wpAnyH_take (i := 15) (oi := ⟨some 30, _, _, _, _, _⟩) (v := undef) rfl (by kernel_rfl) (by kernel_rfl) (by kernel_rfl) (fun _ _ _ h => h) (Or.inr ⟨by rfl, rfl⟩) (by assumption) ?_
          simp only [pa]
          refine tkA 16 31 (v := ?_) rfl (by kernel_rfl) (fun _ _ _ h => h) (by rfl) ?_ (by assumption) ?_; rotate_left; · (intro w hSw; (try dsimp only at hSw); go_simp; try with_reducible rfl)
          simp only [pa]
          have HE := hidP (hHeld.2.2.2.2.2.2)
          refine wpAnyH_done (by kernel_rfl) ?_ _
          clear hHeld
          go_wp2_with fail
          go_ret
          exact ⟨ret_b7 HF.out.symm, below_box7 HBel.out HBel.out.size HXB.out HE.out⟩
      · have g1' : decide (L < q.i) = false := decide_eq_false (by have := of_decide_eq_true g1; omega)
        have HF : Hid (sesF N 0 ls = false) := hidP (by rw [HPo.out, g1']; rfl)
        clear HPo g1'
        go_wp2_with fail
        obtain ⟨x0, x1, x2, x3⟩ := boxSs (q := q) wr 96
        have xB := alloc_below wr (.cells #[.int .i64 q.i, .int .i64 q.l, .string q.t, .int .i64 q.u] 96)
        have xL := alloc_lt wr (.cells #[.int .i64 q.i, .int .i64 q.l, .string q.t, .int .i64 q.u] 96)
        have xS : (wr.alloc (.cells #[.int .i64 q.i, .int .i64 q.l, .string q.t, .int .i64 q.u] 96)).heap.size = wr.heap.size + 1 := by simp
        generalize wr.alloc (.cells #[.int .i64 q.i, .int .i64 q.l, .string q.t, .int .i64 q.u] 96) = W2 at *
        have D0 := (xB.cell BL).trans B0
        have D1 := (xB.cell BL).trans B1
        have DL : b < W2.heap.size := Nat.lt_of_lt_of_le BL xB.size
        have HXB := hidP xB
        clear xS xB
        have HSx : Hid (∀ x, Below W2.heap.size W2 x → (x.cell? ⟨b, 0, none⟩ = some (.slice (some ⟨p, o, none⟩) n c) ∧ x.cell? ⟨b, 1, none⟩ = some (.int .i64 N) ∧ x.cell? ⟨wr.heap.size, 0, none⟩ = some (.int .i64 q.i) ∧ x.cell? ⟨wr.heap.size, 1, none⟩ = some (.int .i64 q.l) ∧ x.cell? ⟨wr.heap.size, 2, none⟩ = some (.string q.t) ∧ x.cell? ⟨wr.heap.size, 3, none⟩ = some (.int .i64 q.u) ∧ Below W2.heap.size W2 x)) := hidP fun x h =>
          ⟨(h.cell DL).trans D0, (h.cell DL).trans D1, (h.cell xL).trans x0, (h.cell xL).trans x1, (h.cell xL).trans x2, (h.cell xL).trans x3, h⟩
        refine wp_region_held_drew (S := (fun x => x.cell? ⟨b, 0, none⟩ = some (.slice (some ⟨p, o, none⟩) n c) ∧ x.cell? ⟨b, 1, none⟩ = some (.int .i64 N) ∧ x.cell? ⟨wr.heap.size, 0, none⟩ = some (.int .i64 q.i) ∧ x.cell? ⟨wr.heap.size, 1, none⟩ = some (.int .i64 q.l) ∧ x.cell? ⟨wr.heap.size, 2, none⟩ = some (.string q.t) ∧ x.cell? ⟨wr.heap.size, 3, none⟩ = some (.int .i64 q.u) ∧ Below W2.heap.size W2 x)) (by kernel_rfl) ?_ (fun hHeld => ?_)
        · try dsimp only
          exact HSx.out _ ((Below.refl _ _).drew)
        refine tkA 0 15 (v := ?_) rfl (by kernel_rfl) (fun _ _ _ h => h) (by rfl) ?_ (by assumption) ?_; rotate_left; · (intro w hSw; (try dsimp only at hSw); go_simp; try with_reducible rfl)
        simp only [pa]
        refine tkA 1 16 (v := ?_) rfl (by kernel_rfl) (fun _ _ _ h => h) (by rfl) ?_ (by assumption) ?_; rotate_left; · (intro w hSw; (try dsimp only at hSw); go_simp; try with_reducible rfl)
        simp only [pa]
        refine tkA 2 17 (v := ?_) rfl (by kernel_rfl) (fun _ _ _ h => h) (by rfl) ?_ (by assumption) ?_; rotate_left; · (intro w hSw; (try dsimp only at hSw); go_simp; try with_reducible rfl)
        simp only [pa]
        refine tkA 3 18 (v := ?_) rfl (by kernel_rfl) (fun _ _ _ h => h) (by rfl) ?_ (by assumption) ?_; rotate_left; · (intro w hSw; (try dsimp only at hSw); go_simp; try with_reducible rfl)
        simp only [pa]
        refine tkA 4 19 (v := ?_) rfl (by kernel_rfl) (fun _ _ _ h => h) (by rfl) ?_ (by assumption) ?_; rotate_left; · (intro w hSw; (try dsimp only at hSw); go_simp; try with_reducible rfl)
        simp only [pa]
        refine wpAnyH_take (i := 5) (oi := ⟨some 20, _, _, _, _, _⟩) (v := undef) rfl (by kernel_rfl) (by kernel_rfl) (by kernel_rfl) (fun _ _ _ h => h) (Or.inr ⟨by rfl, rfl⟩) (by assumption) ?_
        simp only [pa]
        refine wpAnyH_take (i := 6) (oi := ⟨some 21, _, _, _, _, _⟩) (v := undef) rfl (by kernel_rfl) (by kernel_rfl) (by kernel_rfl) (fun _ _ _ h => h) (Or.inr ⟨by rfl, rfl⟩) (by assumption) ?_
        simp only [pa]
        refine wpAnyH_take (i := 7) (oi := ⟨some 22, _, _, _, _, _⟩) (v := undef) rfl (by kernel_rfl) (by kernel_rfl) (by kernel_rfl) (fun _ _ _ h => h) (Or.inr ⟨by rfl, rfl⟩) (by assumption) ?_
        simp only [pa]
        refine wpAnyH_take (i := 8) (oi := ⟨some 23, _, _, _, _, _⟩) (v := undef) rfl (by kernel_rfl) (by kernel_rfl) (by kernel_rfl) (fun _ _ _ h => h) (Or.inr ⟨by rfl, rfl⟩) (by assumption) ?_
        simp only [pa]
        refine wpAnyH_take (i := 9) (oi := ⟨some 24, _, _, _, _, _⟩) (v := undef) rfl (by kernel_rfl) (by kernel_rfl) (by kernel_rfl) (fun _ _ _ h => h) (Or.inr ⟨by rfl, rfl⟩) (by assumption) ?_
        simp only [pa]
        refine wpAnyH_take (i := 10) (oi := ⟨some 25, _, _, _, _, _⟩) (v := undef) rfl (by kernel_rfl) (by kernel_rfl) (by kernel_rfl) (fun _ _ _ h => h) (Or.inr ⟨by rfl, rfl⟩) (by assumption) ?_
        simp only [pa]
        refine wpAnyH_take (i := 11) (oi := ⟨some 26, _, _, _, _, _⟩) (v := undef) rfl (by kernel_rfl) (by kernel_rfl) (by kernel_rfl) (fun _ _ _ h => h) (Or.inr ⟨by rfl, rfl⟩) (by assumption) ?_
        simp only [pa]
        refine tkA 12 27 (v := ?_) rfl (by kernel_rfl) (fun _ _ _ h => h) (by rfl) ?_ (by assumption) ?_; rotate_left; · (intro w hSw; (try dsimp only at hSw); go_simp; try with_reducible rfl)
        simp only [pa]
        refine tkA 13 28 (v := ?_) rfl (by kernel_rfl) (fun _ _ _ h => h) (by rfl) ?_ (by assumption) ?_; rotate_left; · (intro w hSw; (try dsimp only at hSw); go_simp; try with_reducible rfl)
        simp only [pa]
        refine wpAnyH_take (i := 14) (oi := ⟨some 29, _, _, _, _, _⟩) (v := undef) rfl (by kernel_rfl) (by kernel_rfl) (by kernel_rfl) (fun _ _ _ h => h) (Or.inr ⟨by rfl, rfl⟩) (by assumption) ?_
        simp only [pa]
        refine wpAnyH_take (i := 15) (oi := ⟨some 30, _, _, _, _, _⟩) (v := undef) rfl (by kernel_rfl) (by kernel_rfl) (by kernel_rfl) (fun _ _ _ h => h) (Or.inr ⟨by rfl, rfl⟩) (by assumption) ?_
        simp only [pa]
        refine tkA 16 31 (v := ?_) rfl (by kernel_rfl) (fun _ _ _ h => h) (by rfl) ?_ (by assumption) ?_; rotate_left; · (intro w hSw; (try dsimp only at hSw); go_simp; try with_reducible rfl)
        simp only [pa]
        have HE := hidP (hHeld.2.2.2.2.2.2)
        refine wpAnyH_done (by kernel_rfl) ?_ _
        clear hHeld
        go_wp2_with fail
        go_ret
        exact ⟨ret_b7 HF.out.symm, below_box7 HBel.out HBel.out.size HXB.out HE.out⟩
    · have HF : Hid (sesF N 0 ls = true) := by
        rw [List.drop_of_length_le (by have := HN.out; omega)] at hpo
        exact hidP hpo
      have HBel := hidP hbel
      clear hbel hpo
      go_wp2_with fail
      go_ret
      exact ⟨ret_b7 HF.out.symm, HBel.out⟩

set_option maxRecDepth 10000 in
set_option maxHeartbeats 2000000 in
theorem iDeskOk_any (a : Option Addr) (n c : Nat) (N : Int) (ls : List Ss) (w : World) (hn : n = ls.length) (hB : RowG KSs w a ls) (hl : n ≤ 1048576) :
    Calls Tryz.prog 25 #[.agg #[.slice a n c, .int .i64 N]] w fun e w' => e = .returned (.bool (dkB ls N)) ∧ Below w.heap.size w w' := by
  have HS := hidP (fun W h => sessionsOk_any w.heap.size a n c N ls W hn (hB.later h) (by omega))
  unfold dkB
  rw [← hn]
  clear hB hn
  generalize sesF N 0 ls = F at *
  cases h0 : decide ((n : Int) ≤ 12) <;> cases h1 : decide (1 ≤ N) <;> cases h2 : decide (N ≤ 1000000)
  all_goals
    go_enter Tryz.func25, Tryz.ntmps25
    go_wp2_with fail
    first
    | (go_ret; exact ⟨rfl, alloc_below w _⟩)
    | (refine (HS.out _ (alloc_below w _) (alloc_lt w _) (by simp [go_sem]) (by simp [go_sem])).mono ?_; rintro e w2 ⟨rfl, hb2⟩; have HB2 := hidP hb2; clear hb2; go_wp2_with fail; go_ret; exact ⟨rfl, (alloc_below w _).trans (HB2.out.mono (alloc_below w _).size)⟩)

end Go.Proofs.YtplocbpngikohaaGreat
