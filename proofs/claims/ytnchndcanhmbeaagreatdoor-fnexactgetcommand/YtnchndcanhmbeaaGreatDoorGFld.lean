/-
  The fields of an order: their texts, and whether they are right. Nothing old in memory turns.
-/
import Derived.Test.YtnchndcanhmbeaaGreatDoorGCmd
import Derived.Lib.ItoaLen
namespace Go.Proofs.YtnchndcanhmbeaaGreatDoor
open Go.RowKit

/-- The text of a number's field; whether a number is in its bounds. -/
def fT (nm : ByteArray) (n : Int) : ByteArray := nm ++ ⟨#[61]⟩ ++ ⟨(Lib.itoa n).toArray⟩
def rB (a n b : Int) : Bool := decide (a ≤ n) && decide (n ≤ b)
def I6 (z : Int) : Prop := -9223372036854775808 ≤ z ∧ z ≤ 9223372036854775807
theorem itoaA (z : Int) (hz : I6 z) (w : World) (ht : Tabs w) :
    Calls Tryz.prog 88 #[.int .i64 z] w fun e w' => e = .returned (.string ⟨(Lib.itoa z).toArray⟩) ∧ Below w.heap.size w w' := by
  refine (Tryz.strconv_Itoa z hz.1 hz.2 w ht.pow).mono ?_
  rintro e w' ⟨rfl, k, os, rfl⟩
  exact ⟨rfl, below_grow w k os⟩

set_option maxHeartbeats 1000000 in
theorem numF (nm : ByteArray) (n a b : Int) (hn : nm.size ≤ 10) (hz : I6 n) (x : World) (ht : Tabs x) :
    Calls Tryz.prog 82 #[.string nm, .int .i64 n, .int .i64 a, .int .i64 b] x fun e w' => e = .returned (.agg #[.string (fT nm n), .bool (rB a n b)]) ∧ Below x.heap.size x w' := by
  have HI := hidP (fun w h => itoaA n hz w h)
  have hD := Lib.itoa_length_le n hz.1 hz.2
  have HF : Hid (fT nm n = nm ++ ⟨#[61]⟩ ++ ⟨(Lib.itoa n).toArray⟩) := hidP rfl
  generalize fT nm n = T at *
  generalize Lib.itoa n = D at *
  have HT := hidP ht
  clear hz ht
  have ab := (Below.refl x.heap.size x).alloc (Nat.le_refl _) (.cells #[.string ⟨#[]⟩, .bool false] 106)
  by_cases h1 : a ≤ n
  · have HR : Hid (rB a n b = decide (n ≤ b)) := hidP (by unfold rB; rw [decide_eq_true h1]; rfl)
    generalize rB a n b = r at *
    go_enter Tryz.func82, Tryz.ntmps82
    go_wp2_with fail
    refine (HI.out _ (HT.out.below ab)).mono ?_
    rintro e w1 ⟨rfl, hb⟩
    obtain ⟨hc, hf⟩ := olds (n := x.heap.size + 1) (hb.mono (by simp))
    have z0 : x.heap.size < w1.heap.size := by have := hb.size; simp at this; omega
    have HB := hidP (ab.trans (hb.mono (by simp)))
    clear hb ab
    go_wp2_with fail
    refine bodyPost_ret (v := .agg #[.string T, .bool r]) (by simp [results, Tryz.results82, go_sem, hc, HF.out, HR.out]) rfl ⟨rfl, ?_⟩
    repeat (first | with_reducible exact HB.out | (with_reducible refine Below.setCell ?_ (by first | omega | (simp; done) | (simp; omega)) _))
  · have HR : Hid (rB a n b = false) := hidP (by unfold rB; rw [decide_eq_false h1]; rfl)
    generalize rB a n b = r at *
    have d1 : decide (a ≤ n) = false := decide_eq_false h1
    go_enter Tryz.func82, Tryz.ntmps82
    go_wp2_with fail
    refine (HI.out _ (HT.out.below ab)).mono ?_
    rintro e w1 ⟨rfl, hb⟩
    obtain ⟨hc, hf⟩ := olds (n := x.heap.size + 1) (hb.mono (by simp))
    have z0 : x.heap.size < w1.heap.size := by have := hb.size; simp at this; omega
    have HB := hidP (ab.trans (hb.mono (by simp)))
    clear hb ab
    go_wp2_with fail
    refine bodyPost_ret (v := .agg #[.string T, .bool r]) (by simp [results, Tryz.results82, go_sem, hc, HF.out, HR.out]) rfl ⟨rfl, ?_⟩
    repeat (first | with_reducible exact HB.out | (with_reducible refine Below.setCell ?_ (by first | omega | (simp; done) | (simp; omega)) _))

set_option maxHeartbeats 400000 in
theorem sessionField_any (n : Int) (hz : I6 n) (x : World) (ht : Tabs x) :
    Calls Tryz.prog 74 #[.int .i64 n] x fun e w' => e = .returned (.agg #[.string (fT ⟨#[115, 101, 115, 115, 105, 111, 110]⟩ n), .bool (rB 1 n 1000000)]) ∧ Below x.heap.size x w' := by
  have ab := (Below.refl x.heap.size x).alloc (Nat.le_refl _) (.cells #[.string ⟨#[]⟩, .bool false] 106)
  have HN := hidP (fun w h => numF ⟨#[115, 101, 115, 115, 105, 111, 110]⟩ n 1 1000000 (by decide) hz w h)
  have HT := hidP ht
  clear hz ht
  generalize fT ⟨#[115, 101, 115, 115, 105, 111, 110]⟩ n = T at *
  generalize rB 1 n 1000000 = r at *
  go_enter Tryz.func74, Tryz.ntmps74
  go_wp2_with fail
  refine (HN.out _ (HT.out.below ab)).mono ?_
  rintro e w1 ⟨rfl, hb⟩
  obtain ⟨hc, hf⟩ := olds (n := x.heap.size + 1) (hb.mono (by simp))
  have z0 : x.heap.size < w1.heap.size := by have := hb.size; simp at this; omega
  have HB := hidP (ab.trans (hb.mono (by simp)))
  clear hb ab
  go_wp2_with fail
  refine bodyPost_ret (v := .agg #[.string T, .bool r]) (by simp [results, Tryz.results74, go_sem, hc]) rfl ⟨rfl, ?_⟩
  repeat (first | with_reducible exact HB.out | (with_reducible refine Below.setCell ?_ (by first | omega | (simp; done) | (simp; omega)) _))

set_option maxHeartbeats 400000 in
theorem seqField_any (n : Int) (hz : I6 n) (x : World) (ht : Tabs x) :
    Calls Tryz.prog 83 #[.int .i64 n] x fun e w' => e = .returned (.agg #[.string (fT ⟨#[115, 101, 113]⟩ n), .bool (rB 1 n 1000000)]) ∧ Below x.heap.size x w' := by
  have ab := (Below.refl x.heap.size x).alloc (Nat.le_refl _) (.cells #[.string ⟨#[]⟩, .bool false] 106)
  have HN := hidP (fun w h => numF ⟨#[115, 101, 113]⟩ n 1 1000000 (by decide) hz w h)
  have HT := hidP ht
  clear hz ht
  generalize fT ⟨#[115, 101, 113]⟩ n = T at *
  generalize rB 1 n 1000000 = r at *
  go_enter Tryz.func83, Tryz.ntmps83
  go_wp2_with fail
  refine (HN.out _ (HT.out.below ab)).mono ?_
  rintro e w1 ⟨rfl, hb⟩
  obtain ⟨hc, hf⟩ := olds (n := x.heap.size + 1) (hb.mono (by simp))
  have z0 : x.heap.size < w1.heap.size := by have := hb.size; simp at this; omega
  have HB := hidP (ab.trans (hb.mono (by simp)))
  clear hb ab
  go_wp2_with fail
  refine bodyPost_ret (v := .agg #[.string T, .bool r]) (by simp [results, Tryz.results83, go_sem, hc]) rfl ⟨rfl, ?_⟩
  repeat (first | with_reducible exact HB.out | (with_reducible refine Below.setCell ?_ (by first | omega | (simp; done) | (simp; omega)) _))

set_option maxHeartbeats 400000 in
theorem nowField_any (n : Int) (hz : I6 n) (x : World) (ht : Tabs x) :
    Calls Tryz.prog 73 #[.int .i64 n] x fun e w' => e = .returned (.agg #[.string (fT ⟨#[110, 111, 119]⟩ n), .bool (rB 0 n 1000000000)]) ∧ Below x.heap.size x w' := by
  have ab := (Below.refl x.heap.size x).alloc (Nat.le_refl _) (.cells #[.string ⟨#[]⟩, .bool false] 106)
  have HN := hidP (fun w h => numF ⟨#[110, 111, 119]⟩ n 0 1000000000 (by decide) hz w h)
  have HT := hidP ht
  clear hz ht
  generalize fT ⟨#[110, 111, 119]⟩ n = T at *
  generalize rB 0 n 1000000000 = r at *
  go_enter Tryz.func73, Tryz.ntmps73
  go_wp2_with fail
  refine (HN.out _ (HT.out.below ab)).mono ?_
  rintro e w1 ⟨rfl, hb⟩
  obtain ⟨hc, hf⟩ := olds (n := x.heap.size + 1) (hb.mono (by simp))
  have z0 : x.heap.size < w1.heap.size := by have := hb.size; simp at this; omega
  have HB := hidP (ab.trans (hb.mono (by simp)))
  clear hb ab
  go_wp2_with fail
  refine bodyPost_ret (v := .agg #[.string T, .bool r]) (by simp [results, Tryz.results73, go_sem, hc]) rfl ⟨rfl, ?_⟩
  repeat (first | with_reducible exact HB.out | (with_reducible refine Below.setCell ?_ (by first | omega | (simp; done) | (simp; omega)) _))

set_option maxHeartbeats 400000 in
theorem bitsField_any (n : Int) (hz : I6 n) (x : World) (ht : Tabs x) :
    Calls Tryz.prog 77 #[.int .i64 n] x fun e w' => e = .returned (.agg #[.string (fT ⟨#[98, 105, 116, 115]⟩ n), .bool (rB 0 n 128)]) ∧ Below x.heap.size x w' := by
  have ab := (Below.refl x.heap.size x).alloc (Nat.le_refl _) (.cells #[.string ⟨#[]⟩, .bool false] 106)
  have HN := hidP (fun w h => numF ⟨#[98, 105, 116, 115]⟩ n 0 128 (by decide) hz w h)
  have HT := hidP ht
  clear hz ht
  generalize fT ⟨#[98, 105, 116, 115]⟩ n = T at *
  generalize rB 0 n 128 = r at *
  go_enter Tryz.func77, Tryz.ntmps77
  go_wp2_with fail
  refine (HN.out _ (HT.out.below ab)).mono ?_
  rintro e w1 ⟨rfl, hb⟩
  obtain ⟨hc, hf⟩ := olds (n := x.heap.size + 1) (hb.mono (by simp))
  have z0 : x.heap.size < w1.heap.size := by have := hb.size; simp at this; omega
  have HB := hidP (ab.trans (hb.mono (by simp)))
  clear hb ab
  go_wp2_with fail
  refine bodyPost_ret (v := .agg #[.string T, .bool r]) (by simp [results, Tryz.results77, go_sem, hc]) rfl ⟨rfl, ?_⟩
  repeat (first | with_reducible exact HB.out | (with_reducible refine Below.setCell ?_ (by first | omega | (simp; done) | (simp; omega)) _))

set_option maxHeartbeats 400000 in
theorem tokenField_any (n : Int) (hz : I6 n) (x : World) (ht : Tabs x) :
    Calls Tryz.prog 81 #[.int .i64 n] x fun e w' => e = .returned (.agg #[.string (fT ⟨#[116, 111, 107, 101, 110]⟩ n), .bool (rB 1 n 1000000000)]) ∧ Below x.heap.size x w' := by
  have ab := (Below.refl x.heap.size x).alloc (Nat.le_refl _) (.cells #[.string ⟨#[]⟩, .bool false] 106)
  have HN := hidP (fun w h => numF ⟨#[116, 111, 107, 101, 110]⟩ n 1 1000000000 (by decide) hz w h)
  have HT := hidP ht
  clear hz ht
  generalize fT ⟨#[116, 111, 107, 101, 110]⟩ n = T at *
  generalize rB 1 n 1000000000 = r at *
  go_enter Tryz.func81, Tryz.ntmps81
  go_wp2_with fail
  refine (HN.out _ (HT.out.below ab)).mono ?_
  rintro e w1 ⟨rfl, hb⟩
  obtain ⟨hc, hf⟩ := olds (n := x.heap.size + 1) (hb.mono (by simp))
  have z0 : x.heap.size < w1.heap.size := by have := hb.size; simp at this; omega
  have HB := hidP (ab.trans (hb.mono (by simp)))
  clear hb ab
  go_wp2_with fail
  refine bodyPost_ret (v := .agg #[.string T, .bool r]) (by simp [results, Tryz.results81, go_sem, hc]) rfl ⟨rfl, ?_⟩
  repeat (first | with_reducible exact HB.out | (with_reducible refine Below.setCell ?_ (by first | omega | (simp; done) | (simp; omega)) _))

set_option maxHeartbeats 400000 in
theorem spanField_any (n : Int) (hz : I6 n) (x : World) (ht : Tabs x) :
    Calls Tryz.prog 79 #[.int .i64 n] x fun e w' => e = .returned (.agg #[.string (fT ⟨#[115, 112, 97, 110]⟩ n), .bool (rB 1 n 1000)]) ∧ Below x.heap.size x w' := by
  have ab := (Below.refl x.heap.size x).alloc (Nat.le_refl _) (.cells #[.string ⟨#[]⟩, .bool false] 106)
  have HN := hidP (fun w h => numF ⟨#[115, 112, 97, 110]⟩ n 1 1000 (by decide) hz w h)
  have HT := hidP ht
  clear hz ht
  generalize fT ⟨#[115, 112, 97, 110]⟩ n = T at *
  generalize rB 1 n 1000 = r at *
  go_enter Tryz.func79, Tryz.ntmps79
  go_wp2_with fail
  refine (HN.out _ (HT.out.below ab)).mono ?_
  rintro e w1 ⟨rfl, hb⟩
  obtain ⟨hc, hf⟩ := olds (n := x.heap.size + 1) (hb.mono (by simp))
  have z0 : x.heap.size < w1.heap.size := by have := hb.size; simp at this; omega
  have HB := hidP (ab.trans (hb.mono (by simp)))
  clear hb ab
  go_wp2_with fail
  refine bodyPost_ret (v := .agg #[.string T, .bool r]) (by simp [results, Tryz.results79, go_sem, hc]) rfl ⟨rfl, ?_⟩
  repeat (first | with_reducible exact HB.out | (with_reducible refine Below.setCell ?_ (by first | omega | (simp; done) | (simp; omega)) _))

def oT (o : ByteArray) : ByteArray := ⟨#[111, 119, 110, 101, 114, 61]⟩ ++ o
set_option maxHeartbeats 400000 in
theorem ownerField_any (o : ByteArray) (ho : o.size ≤ 1048576) (x : World) :
    Calls Tryz.prog 78 #[.string o] x fun e w' => e = .returned (.agg #[.string (oT o), .bool (ownB o)]) ∧ Below x.heap.size x w' := by
  have HN := hidP (fun w => iOwnerOk_any o w (by omega))
  have HF : Hid (oT o = ⟨#[111, 119, 110, 101, 114, 61]⟩ ++ o) := hidP rfl
  generalize oT o = T at *
  generalize ownB o = r at *
  go_enter Tryz.func78, Tryz.ntmps78
  go_wp2_with fail
  refine (HN.out _).mono ?_
  rintro e w1 ⟨rfl, rfl⟩
  go_wp2_with fail
  refine bodyPost_ret (v := .agg #[.string T, .bool r]) (by simp [results, Tryz.results78, go_sem, HF.out]) rfl ⟨rfl, ?_⟩
  exact (Below.refl _ _).alloc (Nat.le_refl _) _

def aT (T : List UInt8) : ByteArray := ⟨#[97, 116, 61]⟩ ++ ⟨T.toArray⟩
def hT (T : List UInt8) : ByteArray := ⟨#[104, 111, 115, 116, 61]⟩ ++ ⟨T.toArray⟩

set_option maxRecDepth 10000 in
set_option maxHeartbeats 2000000 in
theorem atField_any (s : Bool) (H L : BitVec 64) (b : Int) (T : List UInt8) (hTl : T.length ≤ 200) (hTc : ∀ w : World, Tabs w → Calls Tryz.prog 84 #[.agg #[.bool s, .int .i64 H.toInt, .int .i64 L.toInt, .int .i64 b]] w fun e w' => e = .returned (.string ⟨T.toArray⟩) ∧ Below w.heap.size w w') (x : World) (ht : Tabs x) :
    Calls Tryz.prog 76 #[.agg #[.bool s, .int .i64 H.toInt, .int .i64 L.toInt, .int .i64 b]] x fun e w' => e = .returned (.agg #[.string (aT T), .bool (pokB s H L b)]) ∧ Below x.heap.size x w' := by
  have ab : Below x.heap.size x ((x.alloc (.cells #[.bool s, .int .i64 H.toInt, .int .i64 L.toInt, .int .i64 b] 33)).alloc (.cells #[.string ⟨#[]⟩, .bool false] 106)) := ((Below.refl x.heap.size x).alloc (Nat.le_refl _) _).alloc (by simp) _
  have HTc := hidP hTc
  have HOk := hidP (fun w => iPrefixOk_any s H L b w)
  have HF : Hid (aT T = ⟨#[97, 116, 61]⟩ ++ ⟨T.toArray⟩) := hidP rfl
  have HT := hidP ht
  generalize aT T = TT at *
  generalize pokB s H L b = r at *
  clear hTc ht
  go_enter Tryz.func76, Tryz.ntmps76
  go_wp2_with fail
  go_region_with (first | (go_at_call 84; refine (HTc.out _ (HT.out.below (by repeat (first | with_reducible exact ab | (with_reducible refine Below.drew ?_))))).mono ?_; rintro e w1 ⟨rfl, hb1⟩; have HQ1 := hidP hb1; have l1 : x.heap.size + 1 < w1.heap.size := (by have := hb1.size; simp at this; omega); have c10 : w1.cell? ⟨x.heap.size, 0, none⟩ = some (.bool s) := (HQ1.out.cell (p := ⟨x.heap.size, 0, none⟩) (by first | (simp; done) | (simp; omega))).trans (by simp [go_sem]); have c11 : w1.cell? ⟨x.heap.size, 1, none⟩ = some (.int .i64 H.toInt) := (HQ1.out.cell (p := ⟨x.heap.size, 1, none⟩) (by first | (simp; done) | (simp; omega))).trans (by simp [go_sem]); have c12 : w1.cell? ⟨x.heap.size, 2, none⟩ = some (.int .i64 L.toInt) := (HQ1.out.cell (p := ⟨x.heap.size, 2, none⟩) (by first | (simp; done) | (simp; omega))).trans (by simp [go_sem]); have c13 : w1.cell? ⟨x.heap.size, 3, none⟩ = some (.int .i64 b) := (HQ1.out.cell (p := ⟨x.heap.size, 3, none⟩) (by first | (simp; done) | (simp; omega))).trans (by simp [go_sem]); have d10 : w1.cell? ⟨x.heap.size + 1, 0, none⟩ = some (.string ⟨#[]⟩) := (HQ1.out.cell (p := ⟨x.heap.size + 1, 0, none⟩) (by first | (simp; done) | (simp; omega))).trans (by simp [go_sem]); have d11 : w1.cell? ⟨x.heap.size + 1, 1, none⟩ = some (.bool false) := (HQ1.out.cell (p := ⟨x.heap.size + 1, 1, none⟩) (by first | (simp; done) | (simp; omega))).trans (by simp [go_sem]); have f1 : ∀ o, w1.frozen? ⟨x.heap.size + 1, o, none⟩ = false := (fun o => (HQ1.out.frozen (p := ⟨x.heap.size + 1, o, none⟩) (by first | (simp; done) | (simp; omega))).trans (by simp [go_sem])); clear hb1) | (go_at_call 85; refine (HOk.out _).mono ?_; rintro e w2 ⟨rfl, hb2⟩; have HQ2 := hidP hb2; have l2 : x.heap.size + 1 < w2.heap.size := (by have := hb2.size; omega); have c20 : w2.cell? ⟨x.heap.size, 0, none⟩ = some (.bool s) := (HQ2.out.cell (p := ⟨x.heap.size, 0, none⟩) (by show x.heap.size < _; omega)).trans (by exact c10); have c21 : w2.cell? ⟨x.heap.size, 1, none⟩ = some (.int .i64 H.toInt) := (HQ2.out.cell (p := ⟨x.heap.size, 1, none⟩) (by show x.heap.size < _; omega)).trans (by exact c11); have c22 : w2.cell? ⟨x.heap.size, 2, none⟩ = some (.int .i64 L.toInt) := (HQ2.out.cell (p := ⟨x.heap.size, 2, none⟩) (by show x.heap.size < _; omega)).trans (by exact c12); have c23 : w2.cell? ⟨x.heap.size, 3, none⟩ = some (.int .i64 b) := (HQ2.out.cell (p := ⟨x.heap.size, 3, none⟩) (by show x.heap.size < _; omega)).trans (by exact c13); have d20 : w2.cell? ⟨x.heap.size + 1, 0, none⟩ = some (.string ⟨#[]⟩) := (HQ2.out.cell (p := ⟨x.heap.size + 1, 0, none⟩) (by show x.heap.size + 1 < _; omega)).trans (by exact d10); have d21 : w2.cell? ⟨x.heap.size + 1, 1, none⟩ = some (.bool false) := (HQ2.out.cell (p := ⟨x.heap.size + 1, 1, none⟩) (by show x.heap.size + 1 < _; omega)).trans (by exact d11); have f2 : ∀ o, w2.frozen? ⟨x.heap.size + 1, o, none⟩ = false := (fun o => (HQ2.out.frozen (p := ⟨x.heap.size + 1, o, none⟩) (by show x.heap.size + 1 < _; omega)).trans (by exact f1 o)); clear hb2))
  all_goals
    go_wp2_with fail
    refine bodyPost_ret (v := .agg #[.string TT, .bool r]) (by simp [results, Tryz.results76, go_sem, HF.out, d20, d21]) rfl ⟨rfl, ?_⟩
    repeat (first | (with_reducible refine Below.setCell ?_ (by first | omega | (simp; done) | (simp; omega)) _) | with_reducible exact ab | (with_reducible refine Below.drew ?_) | (with_reducible refine Below.trans ?_ (HQ2.out.mono (by omega))) | (with_reducible refine Below.trans ?_ (HQ1.out.mono (by simp; omega))))

set_option maxRecDepth 10000 in
set_option maxHeartbeats 2000000 in
theorem hostField_any (s : Bool) (H L : Int) (T : List UInt8) (hTl : T.length ≤ 200) (hTc : ∀ w : World, Tabs w → Calls Tryz.prog 87 #[.agg #[.bool s, .int .i64 H, .int .i64 L]] w fun e w' => e = .returned (.string ⟨T.toArray⟩) ∧ Below w.heap.size w w') (x : World) (ht : Tabs x) :
    Calls Tryz.prog 80 #[.agg #[.bool s, .int .i64 H, .int .i64 L]] x fun e w' => e = .returned (.agg #[.string (hT T), .bool (okB s H L)]) ∧ Below x.heap.size x w' := by
  have ab : Below x.heap.size x ((x.alloc (.cells #[.bool s, .int .i64 H, .int .i64 L] 31)).alloc (.cells #[.string ⟨#[]⟩, .bool false] 106)) := ((Below.refl x.heap.size x).alloc (Nat.le_refl _) _).alloc (by simp) _
  have HTc := hidP hTc
  have HOk := hidP (fun w => iAddrOk_any s H L w)
  have HF : Hid (hT T = ⟨#[104, 111, 115, 116, 61]⟩ ++ ⟨T.toArray⟩) := hidP rfl
  have HT := hidP ht
  generalize hT T = TT at *
  generalize okB s H L = r at *
  clear hTc ht
  go_enter Tryz.func80, Tryz.ntmps80
  go_wp2_with fail
  go_region_with (first | (go_at_call 87; refine (HTc.out _ (HT.out.below (by repeat (first | with_reducible exact ab | (with_reducible refine Below.drew ?_))))).mono ?_; rintro e w1 ⟨rfl, hb1⟩; have HQ1 := hidP hb1; have l1 : x.heap.size + 1 < w1.heap.size := (by have := hb1.size; simp at this; omega); have c10 : w1.cell? ⟨x.heap.size, 0, none⟩ = some (.bool s) := (HQ1.out.cell (p := ⟨x.heap.size, 0, none⟩) (by first | (simp; done) | (simp; omega))).trans (by simp [go_sem]); have c11 : w1.cell? ⟨x.heap.size, 1, none⟩ = some (.int .i64 H) := (HQ1.out.cell (p := ⟨x.heap.size, 1, none⟩) (by first | (simp; done) | (simp; omega))).trans (by simp [go_sem]); have c12 : w1.cell? ⟨x.heap.size, 2, none⟩ = some (.int .i64 L) := (HQ1.out.cell (p := ⟨x.heap.size, 2, none⟩) (by first | (simp; done) | (simp; omega))).trans (by simp [go_sem]); have d10 : w1.cell? ⟨x.heap.size + 1, 0, none⟩ = some (.string ⟨#[]⟩) := (HQ1.out.cell (p := ⟨x.heap.size + 1, 0, none⟩) (by first | (simp; done) | (simp; omega))).trans (by simp [go_sem]); have d11 : w1.cell? ⟨x.heap.size + 1, 1, none⟩ = some (.bool false) := (HQ1.out.cell (p := ⟨x.heap.size + 1, 1, none⟩) (by first | (simp; done) | (simp; omega))).trans (by simp [go_sem]); have f1 : ∀ o, w1.frozen? ⟨x.heap.size + 1, o, none⟩ = false := (fun o => (HQ1.out.frozen (p := ⟨x.heap.size + 1, o, none⟩) (by first | (simp; done) | (simp; omega))).trans (by simp [go_sem])); clear hb1) | (go_at_call 49; refine (HOk.out _).mono ?_; rintro e w2 ⟨rfl, hb2⟩; have HQ2 := hidP hb2; have l2 : x.heap.size + 1 < w2.heap.size := (by have := hb2.size; omega); have c20 : w2.cell? ⟨x.heap.size, 0, none⟩ = some (.bool s) := (HQ2.out.cell (p := ⟨x.heap.size, 0, none⟩) (by show x.heap.size < _; omega)).trans (by exact c10); have c21 : w2.cell? ⟨x.heap.size, 1, none⟩ = some (.int .i64 H) := (HQ2.out.cell (p := ⟨x.heap.size, 1, none⟩) (by show x.heap.size < _; omega)).trans (by exact c11); have c22 : w2.cell? ⟨x.heap.size, 2, none⟩ = some (.int .i64 L) := (HQ2.out.cell (p := ⟨x.heap.size, 2, none⟩) (by show x.heap.size < _; omega)).trans (by exact c12); have d20 : w2.cell? ⟨x.heap.size + 1, 0, none⟩ = some (.string ⟨#[]⟩) := (HQ2.out.cell (p := ⟨x.heap.size + 1, 0, none⟩) (by show x.heap.size + 1 < _; omega)).trans (by exact d10); have d21 : w2.cell? ⟨x.heap.size + 1, 1, none⟩ = some (.bool false) := (HQ2.out.cell (p := ⟨x.heap.size + 1, 1, none⟩) (by show x.heap.size + 1 < _; omega)).trans (by exact d11); have f2 : ∀ o, w2.frozen? ⟨x.heap.size + 1, o, none⟩ = false := (fun o => (HQ2.out.frozen (p := ⟨x.heap.size + 1, o, none⟩) (by show x.heap.size + 1 < _; omega)).trans (by exact f1 o)); clear hb2))
  all_goals
    go_wp2_with fail
    refine bodyPost_ret (v := .agg #[.string TT, .bool r]) (by simp [results, Tryz.results80, go_sem, HF.out, d20, d21]) rfl ⟨rfl, ?_⟩
    repeat (first | (with_reducible refine Below.setCell ?_ (by first | omega | (simp; done) | (simp; omega)) _) | with_reducible exact ab | (with_reducible refine Below.drew ?_) | (with_reducible refine Below.trans ?_ (HQ2.out.mono (by omega))) | (with_reducible refine Below.trans ?_ (HQ1.out.mono (by simp; omega))))

end Go.Proofs.YtnchndcanhmbeaaGreatDoor
