/-
  The program's joining of the texts of numbers, of none to eight of them; nothing old in memory turns.
-/
import Derived.Test.YtnchndcanhmbeaaGreatDoorShelf
import Derived.Test.YtnchndcanhmbeaaGreatDoorDFig
namespace Go.Proofs.YtnchndcanhmbeaaGreatDoor
open Go.RowKit

set_option maxHeartbeats 4000000 in
theorem jn0 (p o c : Nat) (sep : UInt8) (r base : Int) (w : World) 
    (hsep : ∀ wx, (convert 21 9 (.int .i32 r)).run Tryz.prog wx = .ok (.string ⟨[sep].toArray⟩) wx)
     
     :
    Calls Tryz.prog 99 #[.slice (some ⟨p, o, none⟩) 0 c, .int .i32 r, .int .i64 base] w fun e w' => e = .returned (.string ⟨(Lib.join [] [sep]).toArray⟩) ∧ Below w.heap.size w w' := by
  have hmk : ∀ wx : World, (Instr.makeSlice 165 (.int .i64 0) (.int .i64 0)).run Tryz.prog wx = .ok (.slice (some ⟨wx.heap.size, 0, none⟩) 0 0) (wx.alloc (.cells #[] 9)) := fun _ => by kernel_rfl
  go_enter Tryz.func99, Tryz.ntmps99
  go_wp2_with fail
  go_loopw [15] (fun t15 x => (t15 = .int .i64 0 ∧ Below w.heap.size w x ∧ w.heap.size < x.heap.size)) (fun t15 _ => (0 - intOf t15).toNat)
  case atStart => exact ⟨rfl, (Below.refl _ w).alloc (Nat.le_refl _) _, by simp⟩
  case round =>
    obtain ⟨rfl, hBw, hBs⟩ := hrel
    · skip
      go_wp2_with fail
      refine (Tryz.strings_Join_none _ _ _ _).mono ?_
      rintro e w3 ⟨rfl, rfl⟩
      go_wp2
      go_ret
      exact ⟨rfl, hBw⟩

set_option maxHeartbeats 4000000 in
theorem jn1 (p o c : Nat) (z0 : Int) (s0 : List UInt8) (sep : UInt8) (r base : Int) (w : World) (hp : p < w.heap.size)
    (hsep : ∀ wx, (convert 21 9 (.int .i32 r)).run Tryz.prog wx = .ok (.string ⟨[sep].toArray⟩) wx)
    (c0 : w.cell? ⟨p, o, none⟩ = some (.int .i64 z0)) (n0 : s0.length ≤ 4)
    (f0 : Hid (∀ wx : World, Below w.heap.size w wx → Calls Tryz.prog 102 #[.int .i64 z0, .int .i64 base] wx fun e w' => e = .returned (.string ⟨s0.toArray⟩) ∧ Below wx.heap.size wx w')) :
    Calls Tryz.prog 99 #[.slice (some ⟨p, o, none⟩) 1 c, .int .i32 r, .int .i64 base] w fun e w' => e = .returned (.string ⟨(Lib.join [s0] [sep]).toArray⟩) ∧ Below w.heap.size w w' := by
  have hmk : ∀ wx : World, (Instr.makeSlice 165 (.int .i64 1) (.int .i64 1)).run Tryz.prog wx = .ok (.slice (some ⟨wx.heap.size, 0, none⟩) 1 1) (wx.alloc (.cells #[.string ⟨#[]⟩] 9)) := fun _ => by kernel_rfl
  go_enter Tryz.func99, Tryz.ntmps99
  go_wp2_with fail
  go_loopw [15] (fun t15 x => (t15 = .int .i64 0 ∧ x.cell? ⟨w.heap.size, 0, none⟩ = some (.string ⟨#[]⟩) ∧ x.frozen? ⟨w.heap.size, 0, none⟩ = false ∧ Below w.heap.size w x ∧ w.heap.size < x.heap.size) ∨ (t15 = .int .i64 1 ∧ x.cell? ⟨w.heap.size, 0, none⟩ = some (.string ⟨s0.toArray⟩) ∧ x.frozen? ⟨w.heap.size, 0, none⟩ = false ∧ Below w.heap.size w x ∧ w.heap.size < x.heap.size)) (fun t15 _ => (1 - intOf t15).toNat)
  case atStart => exact Or.inl ⟨rfl, by simp [go_sem], by simp [go_sem], (Below.refl _ w).alloc (Nat.le_refl _) _, by simp⟩
  case round =>
    rcases hrel with ⟨rfl, y0, g0, hBw, hBs⟩ | ⟨rfl, y0, g0, hBw, hBs⟩
    · have q : wr.cell? ⟨p, o, none⟩ = some (.int .i64 z0) := (hBw.cell hp).trans c0
      go_wp2_with fail
      refine (f0.out _ hBw).mono ?_
      rintro e w2 ⟨rfl, hb2⟩
      rw [← hb2.cell (p := ⟨w.heap.size, 0, none⟩) hBs] at y0
      rw [← hb2.frozen (p := ⟨w.heap.size, 0, none⟩) hBs] at g0
      have r1 : Below w.heap.size w w2 := hBw.trans (hb2.mono (by omega))
      have r2 : w.heap.size < w2.heap.size := by have := hb2.size; omega
      clear hb2 hBw hBs q
      go_wp2
      refine ⟨Or.inr (⟨rfl, ?_, ?_, r1.setCell (by simp) _, by simpa using r2⟩), by simp [intOf]⟩
      all_goals go_simp
    · skip
      have hcs : ∀ (j : Nat) x, ([⟨s0.toArray⟩] : List ByteArray)[j]? = some x → wr.cell? ⟨w.heap.size, 0 + j, none⟩ = some (.string x) := by
        intro j x hx
        have hj : j < 1 := by have := (List.getElem?_eq_some_iff.1 hx).1; simpa using this
        have hd : j = 0 := by omega
        subst hd; (simp at hx; subst hx; simpa)
      have HC := Any.hidJ hcs
      clear hcs y0 g0
      go_wp2_with fail
      refine (Tryz.strings_Join w.heap.size 0 1 [⟨s0.toArray⟩] ⟨[sep].toArray⟩ _ HC.out hBs (by simp) (by simp) (by simp [Lib.join, List.intercalate]; omega)).mono ?_
      rintro e w3 ⟨rfl, hb3⟩
      go_wp2
      go_ret
      exact ⟨ret_ba (by simp), hBw.trans (hb3.mono (by omega))⟩

set_option maxHeartbeats 4000000 in
theorem jn2 (p o c : Nat) (z0 z1 : Int) (s0 s1 : List UInt8) (sep : UInt8) (r base : Int) (w : World) (hp : p < w.heap.size)
    (hsep : ∀ wx, (convert 21 9 (.int .i32 r)).run Tryz.prog wx = .ok (.string ⟨[sep].toArray⟩) wx)
    (c0 : w.cell? ⟨p, o, none⟩ = some (.int .i64 z0)) (c1 : w.cell? ⟨p, o + 1, none⟩ = some (.int .i64 z1)) (n0 : s0.length ≤ 4) (n1 : s1.length ≤ 4)
    (f0 : Hid (∀ wx : World, Below w.heap.size w wx → Calls Tryz.prog 102 #[.int .i64 z0, .int .i64 base] wx fun e w' => e = .returned (.string ⟨s0.toArray⟩) ∧ Below wx.heap.size wx w'))
    (f1 : Hid (∀ wx : World, Below w.heap.size w wx → Calls Tryz.prog 102 #[.int .i64 z1, .int .i64 base] wx fun e w' => e = .returned (.string ⟨s1.toArray⟩) ∧ Below wx.heap.size wx w')) :
    Calls Tryz.prog 99 #[.slice (some ⟨p, o, none⟩) 2 c, .int .i32 r, .int .i64 base] w fun e w' => e = .returned (.string ⟨(Lib.join [s0, s1] [sep]).toArray⟩) ∧ Below w.heap.size w w' := by
  have hmk : ∀ wx : World, (Instr.makeSlice 165 (.int .i64 2) (.int .i64 2)).run Tryz.prog wx = .ok (.slice (some ⟨wx.heap.size, 0, none⟩) 2 2) (wx.alloc (.cells #[.string ⟨#[]⟩, .string ⟨#[]⟩] 9)) := fun _ => by kernel_rfl
  go_enter Tryz.func99, Tryz.ntmps99
  go_wp2_with fail
  go_loopw [15] (fun t15 x => (t15 = .int .i64 0 ∧ x.cell? ⟨w.heap.size, 0, none⟩ = some (.string ⟨#[]⟩) ∧ x.cell? ⟨w.heap.size, 1, none⟩ = some (.string ⟨#[]⟩) ∧ x.frozen? ⟨w.heap.size, 0, none⟩ = false ∧ x.frozen? ⟨w.heap.size, 1, none⟩ = false ∧ Below w.heap.size w x ∧ w.heap.size < x.heap.size) ∨ (t15 = .int .i64 1 ∧ x.cell? ⟨w.heap.size, 0, none⟩ = some (.string ⟨s0.toArray⟩) ∧ x.cell? ⟨w.heap.size, 1, none⟩ = some (.string ⟨#[]⟩) ∧ x.frozen? ⟨w.heap.size, 0, none⟩ = false ∧ x.frozen? ⟨w.heap.size, 1, none⟩ = false ∧ Below w.heap.size w x ∧ w.heap.size < x.heap.size) ∨ (t15 = .int .i64 2 ∧ x.cell? ⟨w.heap.size, 0, none⟩ = some (.string ⟨s0.toArray⟩) ∧ x.cell? ⟨w.heap.size, 1, none⟩ = some (.string ⟨s1.toArray⟩) ∧ x.frozen? ⟨w.heap.size, 0, none⟩ = false ∧ x.frozen? ⟨w.heap.size, 1, none⟩ = false ∧ Below w.heap.size w x ∧ w.heap.size < x.heap.size)) (fun t15 _ => (2 - intOf t15).toNat)
  case atStart => exact Or.inl ⟨rfl, by simp [go_sem], by simp [go_sem], by simp [go_sem], by simp [go_sem], (Below.refl _ w).alloc (Nat.le_refl _) _, by simp⟩
  case round =>
    rcases hrel with ⟨rfl, y0, y1, g0, g1, hBw, hBs⟩ | ⟨rfl, y0, y1, g0, g1, hBw, hBs⟩ | ⟨rfl, y0, y1, g0, g1, hBw, hBs⟩
    · have q : wr.cell? ⟨p, o, none⟩ = some (.int .i64 z0) := (hBw.cell hp).trans c0
      go_wp2_with fail
      refine (f0.out _ hBw).mono ?_
      rintro e w2 ⟨rfl, hb2⟩
      rw [← hb2.cell (p := ⟨w.heap.size, 0, none⟩) hBs] at y0
      rw [← hb2.frozen (p := ⟨w.heap.size, 0, none⟩) hBs] at g0
      rw [← hb2.cell (p := ⟨w.heap.size, 1, none⟩) hBs] at y1
      rw [← hb2.frozen (p := ⟨w.heap.size, 1, none⟩) hBs] at g1
      have r1 : Below w.heap.size w w2 := hBw.trans (hb2.mono (by omega))
      have r2 : w.heap.size < w2.heap.size := by have := hb2.size; omega
      clear hb2 hBw hBs q
      go_wp2
      refine ⟨Or.inr (Or.inl ⟨rfl, ?_, ?_, ?_, ?_, r1.setCell (by simp) _, by simpa using r2⟩), by simp [intOf]⟩
      all_goals go_simp
    · have q : wr.cell? ⟨p, o + 1, none⟩ = some (.int .i64 z1) := (hBw.cell hp).trans c1
      go_wp2_with fail
      refine (f1.out _ hBw).mono ?_
      rintro e w2 ⟨rfl, hb2⟩
      rw [← hb2.cell (p := ⟨w.heap.size, 0, none⟩) hBs] at y0
      rw [← hb2.frozen (p := ⟨w.heap.size, 0, none⟩) hBs] at g0
      rw [← hb2.cell (p := ⟨w.heap.size, 1, none⟩) hBs] at y1
      rw [← hb2.frozen (p := ⟨w.heap.size, 1, none⟩) hBs] at g1
      have r1 : Below w.heap.size w w2 := hBw.trans (hb2.mono (by omega))
      have r2 : w.heap.size < w2.heap.size := by have := hb2.size; omega
      clear hb2 hBw hBs q
      go_wp2
      refine ⟨Or.inr (Or.inr (⟨rfl, ?_, ?_, ?_, ?_, r1.setCell (by simp) _, by simpa using r2⟩)), by simp [intOf]⟩
      all_goals go_simp
    · skip
      have hcs : ∀ (j : Nat) x, ([⟨s0.toArray⟩, ⟨s1.toArray⟩] : List ByteArray)[j]? = some x → wr.cell? ⟨w.heap.size, 0 + j, none⟩ = some (.string x) := by
        intro j x hx
        have hj : j < 2 := by have := (List.getElem?_eq_some_iff.1 hx).1; simpa using this
        have hd : j = 0 ∨ j = 1 := by omega
        rcases hd with rfl | rfl <;> (simp at hx; subst hx; simpa)
      have HC := Any.hidJ hcs
      clear hcs y0 g0 y1 g1
      go_wp2_with fail
      refine (Tryz.strings_Join w.heap.size 0 2 [⟨s0.toArray⟩, ⟨s1.toArray⟩] ⟨[sep].toArray⟩ _ HC.out hBs (by simp) (by simp) (by simp [Lib.join, List.intercalate]; omega)).mono ?_
      rintro e w3 ⟨rfl, hb3⟩
      go_wp2
      go_ret
      exact ⟨ret_ba (by simp), hBw.trans (hb3.mono (by omega))⟩

set_option maxHeartbeats 4000000 in
theorem jn3 (p o c : Nat) (z0 z1 z2 : Int) (s0 s1 s2 : List UInt8) (sep : UInt8) (r base : Int) (w : World) (hp : p < w.heap.size)
    (hsep : ∀ wx, (convert 21 9 (.int .i32 r)).run Tryz.prog wx = .ok (.string ⟨[sep].toArray⟩) wx)
    (c0 : w.cell? ⟨p, o, none⟩ = some (.int .i64 z0)) (c1 : w.cell? ⟨p, o + 1, none⟩ = some (.int .i64 z1)) (c2 : w.cell? ⟨p, o + 2, none⟩ = some (.int .i64 z2)) (n0 : s0.length ≤ 4) (n1 : s1.length ≤ 4) (n2 : s2.length ≤ 4)
    (f0 : Hid (∀ wx : World, Below w.heap.size w wx → Calls Tryz.prog 102 #[.int .i64 z0, .int .i64 base] wx fun e w' => e = .returned (.string ⟨s0.toArray⟩) ∧ Below wx.heap.size wx w'))
    (f1 : Hid (∀ wx : World, Below w.heap.size w wx → Calls Tryz.prog 102 #[.int .i64 z1, .int .i64 base] wx fun e w' => e = .returned (.string ⟨s1.toArray⟩) ∧ Below wx.heap.size wx w'))
    (f2 : Hid (∀ wx : World, Below w.heap.size w wx → Calls Tryz.prog 102 #[.int .i64 z2, .int .i64 base] wx fun e w' => e = .returned (.string ⟨s2.toArray⟩) ∧ Below wx.heap.size wx w')) :
    Calls Tryz.prog 99 #[.slice (some ⟨p, o, none⟩) 3 c, .int .i32 r, .int .i64 base] w fun e w' => e = .returned (.string ⟨(Lib.join [s0, s1, s2] [sep]).toArray⟩) ∧ Below w.heap.size w w' := by
  have hmk : ∀ wx : World, (Instr.makeSlice 165 (.int .i64 3) (.int .i64 3)).run Tryz.prog wx = .ok (.slice (some ⟨wx.heap.size, 0, none⟩) 3 3) (wx.alloc (.cells #[.string ⟨#[]⟩, .string ⟨#[]⟩, .string ⟨#[]⟩] 9)) := fun _ => by kernel_rfl
  go_enter Tryz.func99, Tryz.ntmps99
  go_wp2_with fail
  go_loopw [15] (fun t15 x => (t15 = .int .i64 0 ∧ x.cell? ⟨w.heap.size, 0, none⟩ = some (.string ⟨#[]⟩) ∧ x.cell? ⟨w.heap.size, 1, none⟩ = some (.string ⟨#[]⟩) ∧ x.cell? ⟨w.heap.size, 2, none⟩ = some (.string ⟨#[]⟩) ∧ x.frozen? ⟨w.heap.size, 0, none⟩ = false ∧ x.frozen? ⟨w.heap.size, 1, none⟩ = false ∧ x.frozen? ⟨w.heap.size, 2, none⟩ = false ∧ Below w.heap.size w x ∧ w.heap.size < x.heap.size) ∨ (t15 = .int .i64 1 ∧ x.cell? ⟨w.heap.size, 0, none⟩ = some (.string ⟨s0.toArray⟩) ∧ x.cell? ⟨w.heap.size, 1, none⟩ = some (.string ⟨#[]⟩) ∧ x.cell? ⟨w.heap.size, 2, none⟩ = some (.string ⟨#[]⟩) ∧ x.frozen? ⟨w.heap.size, 0, none⟩ = false ∧ x.frozen? ⟨w.heap.size, 1, none⟩ = false ∧ x.frozen? ⟨w.heap.size, 2, none⟩ = false ∧ Below w.heap.size w x ∧ w.heap.size < x.heap.size) ∨ (t15 = .int .i64 2 ∧ x.cell? ⟨w.heap.size, 0, none⟩ = some (.string ⟨s0.toArray⟩) ∧ x.cell? ⟨w.heap.size, 1, none⟩ = some (.string ⟨s1.toArray⟩) ∧ x.cell? ⟨w.heap.size, 2, none⟩ = some (.string ⟨#[]⟩) ∧ x.frozen? ⟨w.heap.size, 0, none⟩ = false ∧ x.frozen? ⟨w.heap.size, 1, none⟩ = false ∧ x.frozen? ⟨w.heap.size, 2, none⟩ = false ∧ Below w.heap.size w x ∧ w.heap.size < x.heap.size) ∨ (t15 = .int .i64 3 ∧ x.cell? ⟨w.heap.size, 0, none⟩ = some (.string ⟨s0.toArray⟩) ∧ x.cell? ⟨w.heap.size, 1, none⟩ = some (.string ⟨s1.toArray⟩) ∧ x.cell? ⟨w.heap.size, 2, none⟩ = some (.string ⟨s2.toArray⟩) ∧ x.frozen? ⟨w.heap.size, 0, none⟩ = false ∧ x.frozen? ⟨w.heap.size, 1, none⟩ = false ∧ x.frozen? ⟨w.heap.size, 2, none⟩ = false ∧ Below w.heap.size w x ∧ w.heap.size < x.heap.size)) (fun t15 _ => (3 - intOf t15).toNat)
  case atStart => exact Or.inl ⟨rfl, by simp [go_sem], by simp [go_sem], by simp [go_sem], by simp [go_sem], by simp [go_sem], by simp [go_sem], (Below.refl _ w).alloc (Nat.le_refl _) _, by simp⟩
  case round =>
    rcases hrel with ⟨rfl, y0, y1, y2, g0, g1, g2, hBw, hBs⟩ | ⟨rfl, y0, y1, y2, g0, g1, g2, hBw, hBs⟩ | ⟨rfl, y0, y1, y2, g0, g1, g2, hBw, hBs⟩ | ⟨rfl, y0, y1, y2, g0, g1, g2, hBw, hBs⟩
    · have q : wr.cell? ⟨p, o, none⟩ = some (.int .i64 z0) := (hBw.cell hp).trans c0
      go_wp2_with fail
      refine (f0.out _ hBw).mono ?_
      rintro e w2 ⟨rfl, hb2⟩
      rw [← hb2.cell (p := ⟨w.heap.size, 0, none⟩) hBs] at y0
      rw [← hb2.frozen (p := ⟨w.heap.size, 0, none⟩) hBs] at g0
      rw [← hb2.cell (p := ⟨w.heap.size, 1, none⟩) hBs] at y1
      rw [← hb2.frozen (p := ⟨w.heap.size, 1, none⟩) hBs] at g1
      rw [← hb2.cell (p := ⟨w.heap.size, 2, none⟩) hBs] at y2
      rw [← hb2.frozen (p := ⟨w.heap.size, 2, none⟩) hBs] at g2
      have r1 : Below w.heap.size w w2 := hBw.trans (hb2.mono (by omega))
      have r2 : w.heap.size < w2.heap.size := by have := hb2.size; omega
      clear hb2 hBw hBs q
      go_wp2
      refine ⟨Or.inr (Or.inl ⟨rfl, ?_, ?_, ?_, ?_, ?_, ?_, r1.setCell (by simp) _, by simpa using r2⟩), by simp [intOf]⟩
      all_goals go_simp
    · have q : wr.cell? ⟨p, o + 1, none⟩ = some (.int .i64 z1) := (hBw.cell hp).trans c1
      go_wp2_with fail
      refine (f1.out _ hBw).mono ?_
      rintro e w2 ⟨rfl, hb2⟩
      rw [← hb2.cell (p := ⟨w.heap.size, 0, none⟩) hBs] at y0
      rw [← hb2.frozen (p := ⟨w.heap.size, 0, none⟩) hBs] at g0
      rw [← hb2.cell (p := ⟨w.heap.size, 1, none⟩) hBs] at y1
      rw [← hb2.frozen (p := ⟨w.heap.size, 1, none⟩) hBs] at g1
      rw [← hb2.cell (p := ⟨w.heap.size, 2, none⟩) hBs] at y2
      rw [← hb2.frozen (p := ⟨w.heap.size, 2, none⟩) hBs] at g2
      have r1 : Below w.heap.size w w2 := hBw.trans (hb2.mono (by omega))
      have r2 : w.heap.size < w2.heap.size := by have := hb2.size; omega
      clear hb2 hBw hBs q
      go_wp2
      refine ⟨Or.inr (Or.inr (Or.inl ⟨rfl, ?_, ?_, ?_, ?_, ?_, ?_, r1.setCell (by simp) _, by simpa using r2⟩)), by simp [intOf]⟩
      all_goals go_simp
    · have q : wr.cell? ⟨p, o + 2, none⟩ = some (.int .i64 z2) := (hBw.cell hp).trans c2
      go_wp2_with fail
      refine (f2.out _ hBw).mono ?_
      rintro e w2 ⟨rfl, hb2⟩
      rw [← hb2.cell (p := ⟨w.heap.size, 0, none⟩) hBs] at y0
      rw [← hb2.frozen (p := ⟨w.heap.size, 0, none⟩) hBs] at g0
      rw [← hb2.cell (p := ⟨w.heap.size, 1, none⟩) hBs] at y1
      rw [← hb2.frozen (p := ⟨w.heap.size, 1, none⟩) hBs] at g1
      rw [← hb2.cell (p := ⟨w.heap.size, 2, none⟩) hBs] at y2
      rw [← hb2.frozen (p := ⟨w.heap.size, 2, none⟩) hBs] at g2
      have r1 : Below w.heap.size w w2 := hBw.trans (hb2.mono (by omega))
      have r2 : w.heap.size < w2.heap.size := by have := hb2.size; omega
      clear hb2 hBw hBs q
      go_wp2
      refine ⟨Or.inr (Or.inr (Or.inr (⟨rfl, ?_, ?_, ?_, ?_, ?_, ?_, r1.setCell (by simp) _, by simpa using r2⟩))), by simp [intOf]⟩
      all_goals go_simp
    · skip
      have hcs : ∀ (j : Nat) x, ([⟨s0.toArray⟩, ⟨s1.toArray⟩, ⟨s2.toArray⟩] : List ByteArray)[j]? = some x → wr.cell? ⟨w.heap.size, 0 + j, none⟩ = some (.string x) := by
        intro j x hx
        have hj : j < 3 := by have := (List.getElem?_eq_some_iff.1 hx).1; simpa using this
        have hd : j = 0 ∨ j = 1 ∨ j = 2 := by omega
        rcases hd with rfl | rfl | rfl <;> (simp at hx; subst hx; simpa)
      have HC := Any.hidJ hcs
      clear hcs y0 g0 y1 g1 y2 g2
      go_wp2_with fail
      refine (Tryz.strings_Join w.heap.size 0 3 [⟨s0.toArray⟩, ⟨s1.toArray⟩, ⟨s2.toArray⟩] ⟨[sep].toArray⟩ _ HC.out hBs (by simp) (by simp) (by simp [Lib.join, List.intercalate]; omega)).mono ?_
      rintro e w3 ⟨rfl, hb3⟩
      go_wp2
      go_ret
      exact ⟨ret_ba (by simp), hBw.trans (hb3.mono (by omega))⟩

set_option maxHeartbeats 4000000 in
theorem jn4 (p o c : Nat) (z0 z1 z2 z3 : Int) (s0 s1 s2 s3 : List UInt8) (sep : UInt8) (r base : Int) (w : World) (hp : p < w.heap.size)
    (hsep : ∀ wx, (convert 21 9 (.int .i32 r)).run Tryz.prog wx = .ok (.string ⟨[sep].toArray⟩) wx)
    (c0 : w.cell? ⟨p, o, none⟩ = some (.int .i64 z0)) (c1 : w.cell? ⟨p, o + 1, none⟩ = some (.int .i64 z1)) (c2 : w.cell? ⟨p, o + 2, none⟩ = some (.int .i64 z2)) (c3 : w.cell? ⟨p, o + 3, none⟩ = some (.int .i64 z3)) (n0 : s0.length ≤ 4) (n1 : s1.length ≤ 4) (n2 : s2.length ≤ 4) (n3 : s3.length ≤ 4)
    (f0 : Hid (∀ wx : World, Below w.heap.size w wx → Calls Tryz.prog 102 #[.int .i64 z0, .int .i64 base] wx fun e w' => e = .returned (.string ⟨s0.toArray⟩) ∧ Below wx.heap.size wx w'))
    (f1 : Hid (∀ wx : World, Below w.heap.size w wx → Calls Tryz.prog 102 #[.int .i64 z1, .int .i64 base] wx fun e w' => e = .returned (.string ⟨s1.toArray⟩) ∧ Below wx.heap.size wx w'))
    (f2 : Hid (∀ wx : World, Below w.heap.size w wx → Calls Tryz.prog 102 #[.int .i64 z2, .int .i64 base] wx fun e w' => e = .returned (.string ⟨s2.toArray⟩) ∧ Below wx.heap.size wx w'))
    (f3 : Hid (∀ wx : World, Below w.heap.size w wx → Calls Tryz.prog 102 #[.int .i64 z3, .int .i64 base] wx fun e w' => e = .returned (.string ⟨s3.toArray⟩) ∧ Below wx.heap.size wx w')) :
    Calls Tryz.prog 99 #[.slice (some ⟨p, o, none⟩) 4 c, .int .i32 r, .int .i64 base] w fun e w' => e = .returned (.string ⟨(Lib.join [s0, s1, s2, s3] [sep]).toArray⟩) ∧ Below w.heap.size w w' := by
  have hmk : ∀ wx : World, (Instr.makeSlice 165 (.int .i64 4) (.int .i64 4)).run Tryz.prog wx = .ok (.slice (some ⟨wx.heap.size, 0, none⟩) 4 4) (wx.alloc (.cells #[.string ⟨#[]⟩, .string ⟨#[]⟩, .string ⟨#[]⟩, .string ⟨#[]⟩] 9)) := fun _ => by kernel_rfl
  go_enter Tryz.func99, Tryz.ntmps99
  go_wp2_with fail
  go_loopw [15] (fun t15 x => (t15 = .int .i64 0 ∧ x.cell? ⟨w.heap.size, 0, none⟩ = some (.string ⟨#[]⟩) ∧ x.cell? ⟨w.heap.size, 1, none⟩ = some (.string ⟨#[]⟩) ∧ x.cell? ⟨w.heap.size, 2, none⟩ = some (.string ⟨#[]⟩) ∧ x.cell? ⟨w.heap.size, 3, none⟩ = some (.string ⟨#[]⟩) ∧ x.frozen? ⟨w.heap.size, 0, none⟩ = false ∧ x.frozen? ⟨w.heap.size, 1, none⟩ = false ∧ x.frozen? ⟨w.heap.size, 2, none⟩ = false ∧ x.frozen? ⟨w.heap.size, 3, none⟩ = false ∧ Below w.heap.size w x ∧ w.heap.size < x.heap.size) ∨ (t15 = .int .i64 1 ∧ x.cell? ⟨w.heap.size, 0, none⟩ = some (.string ⟨s0.toArray⟩) ∧ x.cell? ⟨w.heap.size, 1, none⟩ = some (.string ⟨#[]⟩) ∧ x.cell? ⟨w.heap.size, 2, none⟩ = some (.string ⟨#[]⟩) ∧ x.cell? ⟨w.heap.size, 3, none⟩ = some (.string ⟨#[]⟩) ∧ x.frozen? ⟨w.heap.size, 0, none⟩ = false ∧ x.frozen? ⟨w.heap.size, 1, none⟩ = false ∧ x.frozen? ⟨w.heap.size, 2, none⟩ = false ∧ x.frozen? ⟨w.heap.size, 3, none⟩ = false ∧ Below w.heap.size w x ∧ w.heap.size < x.heap.size) ∨ (t15 = .int .i64 2 ∧ x.cell? ⟨w.heap.size, 0, none⟩ = some (.string ⟨s0.toArray⟩) ∧ x.cell? ⟨w.heap.size, 1, none⟩ = some (.string ⟨s1.toArray⟩) ∧ x.cell? ⟨w.heap.size, 2, none⟩ = some (.string ⟨#[]⟩) ∧ x.cell? ⟨w.heap.size, 3, none⟩ = some (.string ⟨#[]⟩) ∧ x.frozen? ⟨w.heap.size, 0, none⟩ = false ∧ x.frozen? ⟨w.heap.size, 1, none⟩ = false ∧ x.frozen? ⟨w.heap.size, 2, none⟩ = false ∧ x.frozen? ⟨w.heap.size, 3, none⟩ = false ∧ Below w.heap.size w x ∧ w.heap.size < x.heap.size) ∨ (t15 = .int .i64 3 ∧ x.cell? ⟨w.heap.size, 0, none⟩ = some (.string ⟨s0.toArray⟩) ∧ x.cell? ⟨w.heap.size, 1, none⟩ = some (.string ⟨s1.toArray⟩) ∧ x.cell? ⟨w.heap.size, 2, none⟩ = some (.string ⟨s2.toArray⟩) ∧ x.cell? ⟨w.heap.size, 3, none⟩ = some (.string ⟨#[]⟩) ∧ x.frozen? ⟨w.heap.size, 0, none⟩ = false ∧ x.frozen? ⟨w.heap.size, 1, none⟩ = false ∧ x.frozen? ⟨w.heap.size, 2, none⟩ = false ∧ x.frozen? ⟨w.heap.size, 3, none⟩ = false ∧ Below w.heap.size w x ∧ w.heap.size < x.heap.size) ∨ (t15 = .int .i64 4 ∧ x.cell? ⟨w.heap.size, 0, none⟩ = some (.string ⟨s0.toArray⟩) ∧ x.cell? ⟨w.heap.size, 1, none⟩ = some (.string ⟨s1.toArray⟩) ∧ x.cell? ⟨w.heap.size, 2, none⟩ = some (.string ⟨s2.toArray⟩) ∧ x.cell? ⟨w.heap.size, 3, none⟩ = some (.string ⟨s3.toArray⟩) ∧ x.frozen? ⟨w.heap.size, 0, none⟩ = false ∧ x.frozen? ⟨w.heap.size, 1, none⟩ = false ∧ x.frozen? ⟨w.heap.size, 2, none⟩ = false ∧ x.frozen? ⟨w.heap.size, 3, none⟩ = false ∧ Below w.heap.size w x ∧ w.heap.size < x.heap.size)) (fun t15 _ => (4 - intOf t15).toNat)
  case atStart => exact Or.inl ⟨rfl, by simp [go_sem], by simp [go_sem], by simp [go_sem], by simp [go_sem], by simp [go_sem], by simp [go_sem], by simp [go_sem], by simp [go_sem], (Below.refl _ w).alloc (Nat.le_refl _) _, by simp⟩
  case round =>
    rcases hrel with ⟨rfl, y0, y1, y2, y3, g0, g1, g2, g3, hBw, hBs⟩ | ⟨rfl, y0, y1, y2, y3, g0, g1, g2, g3, hBw, hBs⟩ | ⟨rfl, y0, y1, y2, y3, g0, g1, g2, g3, hBw, hBs⟩ | ⟨rfl, y0, y1, y2, y3, g0, g1, g2, g3, hBw, hBs⟩ | ⟨rfl, y0, y1, y2, y3, g0, g1, g2, g3, hBw, hBs⟩
    · have q : wr.cell? ⟨p, o, none⟩ = some (.int .i64 z0) := (hBw.cell hp).trans c0
      go_wp2_with fail
      refine (f0.out _ hBw).mono ?_
      rintro e w2 ⟨rfl, hb2⟩
      rw [← hb2.cell (p := ⟨w.heap.size, 0, none⟩) hBs] at y0
      rw [← hb2.frozen (p := ⟨w.heap.size, 0, none⟩) hBs] at g0
      rw [← hb2.cell (p := ⟨w.heap.size, 1, none⟩) hBs] at y1
      rw [← hb2.frozen (p := ⟨w.heap.size, 1, none⟩) hBs] at g1
      rw [← hb2.cell (p := ⟨w.heap.size, 2, none⟩) hBs] at y2
      rw [← hb2.frozen (p := ⟨w.heap.size, 2, none⟩) hBs] at g2
      rw [← hb2.cell (p := ⟨w.heap.size, 3, none⟩) hBs] at y3
      rw [← hb2.frozen (p := ⟨w.heap.size, 3, none⟩) hBs] at g3
      have r1 : Below w.heap.size w w2 := hBw.trans (hb2.mono (by omega))
      have r2 : w.heap.size < w2.heap.size := by have := hb2.size; omega
      clear hb2 hBw hBs q
      go_wp2
      refine ⟨Or.inr (Or.inl ⟨rfl, ?_, ?_, ?_, ?_, ?_, ?_, ?_, ?_, r1.setCell (by simp) _, by simpa using r2⟩), by simp [intOf]⟩
      all_goals go_simp
    · have q : wr.cell? ⟨p, o + 1, none⟩ = some (.int .i64 z1) := (hBw.cell hp).trans c1
      go_wp2_with fail
      refine (f1.out _ hBw).mono ?_
      rintro e w2 ⟨rfl, hb2⟩
      rw [← hb2.cell (p := ⟨w.heap.size, 0, none⟩) hBs] at y0
      rw [← hb2.frozen (p := ⟨w.heap.size, 0, none⟩) hBs] at g0
      rw [← hb2.cell (p := ⟨w.heap.size, 1, none⟩) hBs] at y1
      rw [← hb2.frozen (p := ⟨w.heap.size, 1, none⟩) hBs] at g1
      rw [← hb2.cell (p := ⟨w.heap.size, 2, none⟩) hBs] at y2
      rw [← hb2.frozen (p := ⟨w.heap.size, 2, none⟩) hBs] at g2
      rw [← hb2.cell (p := ⟨w.heap.size, 3, none⟩) hBs] at y3
      rw [← hb2.frozen (p := ⟨w.heap.size, 3, none⟩) hBs] at g3
      have r1 : Below w.heap.size w w2 := hBw.trans (hb2.mono (by omega))
      have r2 : w.heap.size < w2.heap.size := by have := hb2.size; omega
      clear hb2 hBw hBs q
      go_wp2
      refine ⟨Or.inr (Or.inr (Or.inl ⟨rfl, ?_, ?_, ?_, ?_, ?_, ?_, ?_, ?_, r1.setCell (by simp) _, by simpa using r2⟩)), by simp [intOf]⟩
      all_goals go_simp
    · have q : wr.cell? ⟨p, o + 2, none⟩ = some (.int .i64 z2) := (hBw.cell hp).trans c2
      go_wp2_with fail
      refine (f2.out _ hBw).mono ?_
      rintro e w2 ⟨rfl, hb2⟩
      rw [← hb2.cell (p := ⟨w.heap.size, 0, none⟩) hBs] at y0
      rw [← hb2.frozen (p := ⟨w.heap.size, 0, none⟩) hBs] at g0
      rw [← hb2.cell (p := ⟨w.heap.size, 1, none⟩) hBs] at y1
      rw [← hb2.frozen (p := ⟨w.heap.size, 1, none⟩) hBs] at g1
      rw [← hb2.cell (p := ⟨w.heap.size, 2, none⟩) hBs] at y2
      rw [← hb2.frozen (p := ⟨w.heap.size, 2, none⟩) hBs] at g2
      rw [← hb2.cell (p := ⟨w.heap.size, 3, none⟩) hBs] at y3
      rw [← hb2.frozen (p := ⟨w.heap.size, 3, none⟩) hBs] at g3
      have r1 : Below w.heap.size w w2 := hBw.trans (hb2.mono (by omega))
      have r2 : w.heap.size < w2.heap.size := by have := hb2.size; omega
      clear hb2 hBw hBs q
      go_wp2
      refine ⟨Or.inr (Or.inr (Or.inr (Or.inl ⟨rfl, ?_, ?_, ?_, ?_, ?_, ?_, ?_, ?_, r1.setCell (by simp) _, by simpa using r2⟩))), by simp [intOf]⟩
      all_goals go_simp
    · have q : wr.cell? ⟨p, o + 3, none⟩ = some (.int .i64 z3) := (hBw.cell hp).trans c3
      go_wp2_with fail
      refine (f3.out _ hBw).mono ?_
      rintro e w2 ⟨rfl, hb2⟩
      rw [← hb2.cell (p := ⟨w.heap.size, 0, none⟩) hBs] at y0
      rw [← hb2.frozen (p := ⟨w.heap.size, 0, none⟩) hBs] at g0
      rw [← hb2.cell (p := ⟨w.heap.size, 1, none⟩) hBs] at y1
      rw [← hb2.frozen (p := ⟨w.heap.size, 1, none⟩) hBs] at g1
      rw [← hb2.cell (p := ⟨w.heap.size, 2, none⟩) hBs] at y2
      rw [← hb2.frozen (p := ⟨w.heap.size, 2, none⟩) hBs] at g2
      rw [← hb2.cell (p := ⟨w.heap.size, 3, none⟩) hBs] at y3
      rw [← hb2.frozen (p := ⟨w.heap.size, 3, none⟩) hBs] at g3
      have r1 : Below w.heap.size w w2 := hBw.trans (hb2.mono (by omega))
      have r2 : w.heap.size < w2.heap.size := by have := hb2.size; omega
      clear hb2 hBw hBs q
      go_wp2
      refine ⟨Or.inr (Or.inr (Or.inr (Or.inr (⟨rfl, ?_, ?_, ?_, ?_, ?_, ?_, ?_, ?_, r1.setCell (by simp) _, by simpa using r2⟩)))), by simp [intOf]⟩
      all_goals go_simp
    · skip
      have hcs : ∀ (j : Nat) x, ([⟨s0.toArray⟩, ⟨s1.toArray⟩, ⟨s2.toArray⟩, ⟨s3.toArray⟩] : List ByteArray)[j]? = some x → wr.cell? ⟨w.heap.size, 0 + j, none⟩ = some (.string x) := by
        intro j x hx
        have hj : j < 4 := by have := (List.getElem?_eq_some_iff.1 hx).1; simpa using this
        have hd : j = 0 ∨ j = 1 ∨ j = 2 ∨ j = 3 := by omega
        rcases hd with rfl | rfl | rfl | rfl <;> (simp at hx; subst hx; simpa)
      have HC := Any.hidJ hcs
      clear hcs y0 g0 y1 g1 y2 g2 y3 g3
      go_wp2_with fail
      refine (Tryz.strings_Join w.heap.size 0 4 [⟨s0.toArray⟩, ⟨s1.toArray⟩, ⟨s2.toArray⟩, ⟨s3.toArray⟩] ⟨[sep].toArray⟩ _ HC.out hBs (by simp) (by simp) (by simp [Lib.join, List.intercalate]; omega)).mono ?_
      rintro e w3 ⟨rfl, hb3⟩
      go_wp2
      go_ret
      exact ⟨ret_ba (by simp), hBw.trans (hb3.mono (by omega))⟩

set_option maxHeartbeats 4000000 in
theorem jn5 (p o c : Nat) (z0 z1 z2 z3 z4 : Int) (s0 s1 s2 s3 s4 : List UInt8) (sep : UInt8) (r base : Int) (w : World) (hp : p < w.heap.size)
    (hsep : ∀ wx, (convert 21 9 (.int .i32 r)).run Tryz.prog wx = .ok (.string ⟨[sep].toArray⟩) wx)
    (c0 : w.cell? ⟨p, o, none⟩ = some (.int .i64 z0)) (c1 : w.cell? ⟨p, o + 1, none⟩ = some (.int .i64 z1)) (c2 : w.cell? ⟨p, o + 2, none⟩ = some (.int .i64 z2)) (c3 : w.cell? ⟨p, o + 3, none⟩ = some (.int .i64 z3)) (c4 : w.cell? ⟨p, o + 4, none⟩ = some (.int .i64 z4)) (n0 : s0.length ≤ 4) (n1 : s1.length ≤ 4) (n2 : s2.length ≤ 4) (n3 : s3.length ≤ 4) (n4 : s4.length ≤ 4)
    (f0 : Hid (∀ wx : World, Below w.heap.size w wx → Calls Tryz.prog 102 #[.int .i64 z0, .int .i64 base] wx fun e w' => e = .returned (.string ⟨s0.toArray⟩) ∧ Below wx.heap.size wx w'))
    (f1 : Hid (∀ wx : World, Below w.heap.size w wx → Calls Tryz.prog 102 #[.int .i64 z1, .int .i64 base] wx fun e w' => e = .returned (.string ⟨s1.toArray⟩) ∧ Below wx.heap.size wx w'))
    (f2 : Hid (∀ wx : World, Below w.heap.size w wx → Calls Tryz.prog 102 #[.int .i64 z2, .int .i64 base] wx fun e w' => e = .returned (.string ⟨s2.toArray⟩) ∧ Below wx.heap.size wx w'))
    (f3 : Hid (∀ wx : World, Below w.heap.size w wx → Calls Tryz.prog 102 #[.int .i64 z3, .int .i64 base] wx fun e w' => e = .returned (.string ⟨s3.toArray⟩) ∧ Below wx.heap.size wx w'))
    (f4 : Hid (∀ wx : World, Below w.heap.size w wx → Calls Tryz.prog 102 #[.int .i64 z4, .int .i64 base] wx fun e w' => e = .returned (.string ⟨s4.toArray⟩) ∧ Below wx.heap.size wx w')) :
    Calls Tryz.prog 99 #[.slice (some ⟨p, o, none⟩) 5 c, .int .i32 r, .int .i64 base] w fun e w' => e = .returned (.string ⟨(Lib.join [s0, s1, s2, s3, s4] [sep]).toArray⟩) ∧ Below w.heap.size w w' := by
  have hmk : ∀ wx : World, (Instr.makeSlice 165 (.int .i64 5) (.int .i64 5)).run Tryz.prog wx = .ok (.slice (some ⟨wx.heap.size, 0, none⟩) 5 5) (wx.alloc (.cells #[.string ⟨#[]⟩, .string ⟨#[]⟩, .string ⟨#[]⟩, .string ⟨#[]⟩, .string ⟨#[]⟩] 9)) := fun _ => by kernel_rfl
  go_enter Tryz.func99, Tryz.ntmps99
  go_wp2_with fail
  go_loopw [15] (fun t15 x => (t15 = .int .i64 0 ∧ x.cell? ⟨w.heap.size, 0, none⟩ = some (.string ⟨#[]⟩) ∧ x.cell? ⟨w.heap.size, 1, none⟩ = some (.string ⟨#[]⟩) ∧ x.cell? ⟨w.heap.size, 2, none⟩ = some (.string ⟨#[]⟩) ∧ x.cell? ⟨w.heap.size, 3, none⟩ = some (.string ⟨#[]⟩) ∧ x.cell? ⟨w.heap.size, 4, none⟩ = some (.string ⟨#[]⟩) ∧ x.frozen? ⟨w.heap.size, 0, none⟩ = false ∧ x.frozen? ⟨w.heap.size, 1, none⟩ = false ∧ x.frozen? ⟨w.heap.size, 2, none⟩ = false ∧ x.frozen? ⟨w.heap.size, 3, none⟩ = false ∧ x.frozen? ⟨w.heap.size, 4, none⟩ = false ∧ Below w.heap.size w x ∧ w.heap.size < x.heap.size) ∨ (t15 = .int .i64 1 ∧ x.cell? ⟨w.heap.size, 0, none⟩ = some (.string ⟨s0.toArray⟩) ∧ x.cell? ⟨w.heap.size, 1, none⟩ = some (.string ⟨#[]⟩) ∧ x.cell? ⟨w.heap.size, 2, none⟩ = some (.string ⟨#[]⟩) ∧ x.cell? ⟨w.heap.size, 3, none⟩ = some (.string ⟨#[]⟩) ∧ x.cell? ⟨w.heap.size, 4, none⟩ = some (.string ⟨#[]⟩) ∧ x.frozen? ⟨w.heap.size, 0, none⟩ = false ∧ x.frozen? ⟨w.heap.size, 1, none⟩ = false ∧ x.frozen? ⟨w.heap.size, 2, none⟩ = false ∧ x.frozen? ⟨w.heap.size, 3, none⟩ = false ∧ x.frozen? ⟨w.heap.size, 4, none⟩ = false ∧ Below w.heap.size w x ∧ w.heap.size < x.heap.size) ∨ (t15 = .int .i64 2 ∧ x.cell? ⟨w.heap.size, 0, none⟩ = some (.string ⟨s0.toArray⟩) ∧ x.cell? ⟨w.heap.size, 1, none⟩ = some (.string ⟨s1.toArray⟩) ∧ x.cell? ⟨w.heap.size, 2, none⟩ = some (.string ⟨#[]⟩) ∧ x.cell? ⟨w.heap.size, 3, none⟩ = some (.string ⟨#[]⟩) ∧ x.cell? ⟨w.heap.size, 4, none⟩ = some (.string ⟨#[]⟩) ∧ x.frozen? ⟨w.heap.size, 0, none⟩ = false ∧ x.frozen? ⟨w.heap.size, 1, none⟩ = false ∧ x.frozen? ⟨w.heap.size, 2, none⟩ = false ∧ x.frozen? ⟨w.heap.size, 3, none⟩ = false ∧ x.frozen? ⟨w.heap.size, 4, none⟩ = false ∧ Below w.heap.size w x ∧ w.heap.size < x.heap.size) ∨ (t15 = .int .i64 3 ∧ x.cell? ⟨w.heap.size, 0, none⟩ = some (.string ⟨s0.toArray⟩) ∧ x.cell? ⟨w.heap.size, 1, none⟩ = some (.string ⟨s1.toArray⟩) ∧ x.cell? ⟨w.heap.size, 2, none⟩ = some (.string ⟨s2.toArray⟩) ∧ x.cell? ⟨w.heap.size, 3, none⟩ = some (.string ⟨#[]⟩) ∧ x.cell? ⟨w.heap.size, 4, none⟩ = some (.string ⟨#[]⟩) ∧ x.frozen? ⟨w.heap.size, 0, none⟩ = false ∧ x.frozen? ⟨w.heap.size, 1, none⟩ = false ∧ x.frozen? ⟨w.heap.size, 2, none⟩ = false ∧ x.frozen? ⟨w.heap.size, 3, none⟩ = false ∧ x.frozen? ⟨w.heap.size, 4, none⟩ = false ∧ Below w.heap.size w x ∧ w.heap.size < x.heap.size) ∨ (t15 = .int .i64 4 ∧ x.cell? ⟨w.heap.size, 0, none⟩ = some (.string ⟨s0.toArray⟩) ∧ x.cell? ⟨w.heap.size, 1, none⟩ = some (.string ⟨s1.toArray⟩) ∧ x.cell? ⟨w.heap.size, 2, none⟩ = some (.string ⟨s2.toArray⟩) ∧ x.cell? ⟨w.heap.size, 3, none⟩ = some (.string ⟨s3.toArray⟩) ∧ x.cell? ⟨w.heap.size, 4, none⟩ = some (.string ⟨#[]⟩) ∧ x.frozen? ⟨w.heap.size, 0, none⟩ = false ∧ x.frozen? ⟨w.heap.size, 1, none⟩ = false ∧ x.frozen? ⟨w.heap.size, 2, none⟩ = false ∧ x.frozen? ⟨w.heap.size, 3, none⟩ = false ∧ x.frozen? ⟨w.heap.size, 4, none⟩ = false ∧ Below w.heap.size w x ∧ w.heap.size < x.heap.size) ∨ (t15 = .int .i64 5 ∧ x.cell? ⟨w.heap.size, 0, none⟩ = some (.string ⟨s0.toArray⟩) ∧ x.cell? ⟨w.heap.size, 1, none⟩ = some (.string ⟨s1.toArray⟩) ∧ x.cell? ⟨w.heap.size, 2, none⟩ = some (.string ⟨s2.toArray⟩) ∧ x.cell? ⟨w.heap.size, 3, none⟩ = some (.string ⟨s3.toArray⟩) ∧ x.cell? ⟨w.heap.size, 4, none⟩ = some (.string ⟨s4.toArray⟩) ∧ x.frozen? ⟨w.heap.size, 0, none⟩ = false ∧ x.frozen? ⟨w.heap.size, 1, none⟩ = false ∧ x.frozen? ⟨w.heap.size, 2, none⟩ = false ∧ x.frozen? ⟨w.heap.size, 3, none⟩ = false ∧ x.frozen? ⟨w.heap.size, 4, none⟩ = false ∧ Below w.heap.size w x ∧ w.heap.size < x.heap.size)) (fun t15 _ => (5 - intOf t15).toNat)
  case atStart => exact Or.inl ⟨rfl, by simp [go_sem], by simp [go_sem], by simp [go_sem], by simp [go_sem], by simp [go_sem], by simp [go_sem], by simp [go_sem], by simp [go_sem], by simp [go_sem], by simp [go_sem], (Below.refl _ w).alloc (Nat.le_refl _) _, by simp⟩
  case round =>
    rcases hrel with ⟨rfl, y0, y1, y2, y3, y4, g0, g1, g2, g3, g4, hBw, hBs⟩ | ⟨rfl, y0, y1, y2, y3, y4, g0, g1, g2, g3, g4, hBw, hBs⟩ | ⟨rfl, y0, y1, y2, y3, y4, g0, g1, g2, g3, g4, hBw, hBs⟩ | ⟨rfl, y0, y1, y2, y3, y4, g0, g1, g2, g3, g4, hBw, hBs⟩ | ⟨rfl, y0, y1, y2, y3, y4, g0, g1, g2, g3, g4, hBw, hBs⟩ | ⟨rfl, y0, y1, y2, y3, y4, g0, g1, g2, g3, g4, hBw, hBs⟩
    · have q : wr.cell? ⟨p, o, none⟩ = some (.int .i64 z0) := (hBw.cell hp).trans c0
      go_wp2_with fail
      refine (f0.out _ hBw).mono ?_
      rintro e w2 ⟨rfl, hb2⟩
      rw [← hb2.cell (p := ⟨w.heap.size, 0, none⟩) hBs] at y0
      rw [← hb2.frozen (p := ⟨w.heap.size, 0, none⟩) hBs] at g0
      rw [← hb2.cell (p := ⟨w.heap.size, 1, none⟩) hBs] at y1
      rw [← hb2.frozen (p := ⟨w.heap.size, 1, none⟩) hBs] at g1
      rw [← hb2.cell (p := ⟨w.heap.size, 2, none⟩) hBs] at y2
      rw [← hb2.frozen (p := ⟨w.heap.size, 2, none⟩) hBs] at g2
      rw [← hb2.cell (p := ⟨w.heap.size, 3, none⟩) hBs] at y3
      rw [← hb2.frozen (p := ⟨w.heap.size, 3, none⟩) hBs] at g3
      rw [← hb2.cell (p := ⟨w.heap.size, 4, none⟩) hBs] at y4
      rw [← hb2.frozen (p := ⟨w.heap.size, 4, none⟩) hBs] at g4
      have r1 : Below w.heap.size w w2 := hBw.trans (hb2.mono (by omega))
      have r2 : w.heap.size < w2.heap.size := by have := hb2.size; omega
      clear hb2 hBw hBs q
      go_wp2
      refine ⟨Or.inr (Or.inl ⟨rfl, ?_, ?_, ?_, ?_, ?_, ?_, ?_, ?_, ?_, ?_, r1.setCell (by simp) _, by simpa using r2⟩), by simp [intOf]⟩
      all_goals go_simp
    · have q : wr.cell? ⟨p, o + 1, none⟩ = some (.int .i64 z1) := (hBw.cell hp).trans c1
      go_wp2_with fail
      refine (f1.out _ hBw).mono ?_
      rintro e w2 ⟨rfl, hb2⟩
      rw [← hb2.cell (p := ⟨w.heap.size, 0, none⟩) hBs] at y0
      rw [← hb2.frozen (p := ⟨w.heap.size, 0, none⟩) hBs] at g0
      rw [← hb2.cell (p := ⟨w.heap.size, 1, none⟩) hBs] at y1
      rw [← hb2.frozen (p := ⟨w.heap.size, 1, none⟩) hBs] at g1
      rw [← hb2.cell (p := ⟨w.heap.size, 2, none⟩) hBs] at y2
      rw [← hb2.frozen (p := ⟨w.heap.size, 2, none⟩) hBs] at g2
      rw [← hb2.cell (p := ⟨w.heap.size, 3, none⟩) hBs] at y3
      rw [← hb2.frozen (p := ⟨w.heap.size, 3, none⟩) hBs] at g3
      rw [← hb2.cell (p := ⟨w.heap.size, 4, none⟩) hBs] at y4
      rw [← hb2.frozen (p := ⟨w.heap.size, 4, none⟩) hBs] at g4
      have r1 : Below w.heap.size w w2 := hBw.trans (hb2.mono (by omega))
      have r2 : w.heap.size < w2.heap.size := by have := hb2.size; omega
      clear hb2 hBw hBs q
      go_wp2
      refine ⟨Or.inr (Or.inr (Or.inl ⟨rfl, ?_, ?_, ?_, ?_, ?_, ?_, ?_, ?_, ?_, ?_, r1.setCell (by simp) _, by simpa using r2⟩)), by simp [intOf]⟩
      all_goals go_simp
    · have q : wr.cell? ⟨p, o + 2, none⟩ = some (.int .i64 z2) := (hBw.cell hp).trans c2
      go_wp2_with fail
      refine (f2.out _ hBw).mono ?_
      rintro e w2 ⟨rfl, hb2⟩
      rw [← hb2.cell (p := ⟨w.heap.size, 0, none⟩) hBs] at y0
      rw [← hb2.frozen (p := ⟨w.heap.size, 0, none⟩) hBs] at g0
      rw [← hb2.cell (p := ⟨w.heap.size, 1, none⟩) hBs] at y1
      rw [← hb2.frozen (p := ⟨w.heap.size, 1, none⟩) hBs] at g1
      rw [← hb2.cell (p := ⟨w.heap.size, 2, none⟩) hBs] at y2
      rw [← hb2.frozen (p := ⟨w.heap.size, 2, none⟩) hBs] at g2
      rw [← hb2.cell (p := ⟨w.heap.size, 3, none⟩) hBs] at y3
      rw [← hb2.frozen (p := ⟨w.heap.size, 3, none⟩) hBs] at g3
      rw [← hb2.cell (p := ⟨w.heap.size, 4, none⟩) hBs] at y4
      rw [← hb2.frozen (p := ⟨w.heap.size, 4, none⟩) hBs] at g4
      have r1 : Below w.heap.size w w2 := hBw.trans (hb2.mono (by omega))
      have r2 : w.heap.size < w2.heap.size := by have := hb2.size; omega
      clear hb2 hBw hBs q
      go_wp2
      refine ⟨Or.inr (Or.inr (Or.inr (Or.inl ⟨rfl, ?_, ?_, ?_, ?_, ?_, ?_, ?_, ?_, ?_, ?_, r1.setCell (by simp) _, by simpa using r2⟩))), by simp [intOf]⟩
      all_goals go_simp
    · have q : wr.cell? ⟨p, o + 3, none⟩ = some (.int .i64 z3) := (hBw.cell hp).trans c3
      go_wp2_with fail
      refine (f3.out _ hBw).mono ?_
      rintro e w2 ⟨rfl, hb2⟩
      rw [← hb2.cell (p := ⟨w.heap.size, 0, none⟩) hBs] at y0
      rw [← hb2.frozen (p := ⟨w.heap.size, 0, none⟩) hBs] at g0
      rw [← hb2.cell (p := ⟨w.heap.size, 1, none⟩) hBs] at y1
      rw [← hb2.frozen (p := ⟨w.heap.size, 1, none⟩) hBs] at g1
      rw [← hb2.cell (p := ⟨w.heap.size, 2, none⟩) hBs] at y2
      rw [← hb2.frozen (p := ⟨w.heap.size, 2, none⟩) hBs] at g2
      rw [← hb2.cell (p := ⟨w.heap.size, 3, none⟩) hBs] at y3
      rw [← hb2.frozen (p := ⟨w.heap.size, 3, none⟩) hBs] at g3
      rw [← hb2.cell (p := ⟨w.heap.size, 4, none⟩) hBs] at y4
      rw [← hb2.frozen (p := ⟨w.heap.size, 4, none⟩) hBs] at g4
      have r1 : Below w.heap.size w w2 := hBw.trans (hb2.mono (by omega))
      have r2 : w.heap.size < w2.heap.size := by have := hb2.size; omega
      clear hb2 hBw hBs q
      go_wp2
      refine ⟨Or.inr (Or.inr (Or.inr (Or.inr (Or.inl ⟨rfl, ?_, ?_, ?_, ?_, ?_, ?_, ?_, ?_, ?_, ?_, r1.setCell (by simp) _, by simpa using r2⟩)))), by simp [intOf]⟩
      all_goals go_simp
    · have q : wr.cell? ⟨p, o + 4, none⟩ = some (.int .i64 z4) := (hBw.cell hp).trans c4
      go_wp2_with fail
      refine (f4.out _ hBw).mono ?_
      rintro e w2 ⟨rfl, hb2⟩
      rw [← hb2.cell (p := ⟨w.heap.size, 0, none⟩) hBs] at y0
      rw [← hb2.frozen (p := ⟨w.heap.size, 0, none⟩) hBs] at g0
      rw [← hb2.cell (p := ⟨w.heap.size, 1, none⟩) hBs] at y1
      rw [← hb2.frozen (p := ⟨w.heap.size, 1, none⟩) hBs] at g1
      rw [← hb2.cell (p := ⟨w.heap.size, 2, none⟩) hBs] at y2
      rw [← hb2.frozen (p := ⟨w.heap.size, 2, none⟩) hBs] at g2
      rw [← hb2.cell (p := ⟨w.heap.size, 3, none⟩) hBs] at y3
      rw [← hb2.frozen (p := ⟨w.heap.size, 3, none⟩) hBs] at g3
      rw [← hb2.cell (p := ⟨w.heap.size, 4, none⟩) hBs] at y4
      rw [← hb2.frozen (p := ⟨w.heap.size, 4, none⟩) hBs] at g4
      have r1 : Below w.heap.size w w2 := hBw.trans (hb2.mono (by omega))
      have r2 : w.heap.size < w2.heap.size := by have := hb2.size; omega
      clear hb2 hBw hBs q
      go_wp2
      refine ⟨Or.inr (Or.inr (Or.inr (Or.inr (Or.inr (⟨rfl, ?_, ?_, ?_, ?_, ?_, ?_, ?_, ?_, ?_, ?_, r1.setCell (by simp) _, by simpa using r2⟩))))), by simp [intOf]⟩
      all_goals go_simp
    · skip
      have hcs : ∀ (j : Nat) x, ([⟨s0.toArray⟩, ⟨s1.toArray⟩, ⟨s2.toArray⟩, ⟨s3.toArray⟩, ⟨s4.toArray⟩] : List ByteArray)[j]? = some x → wr.cell? ⟨w.heap.size, 0 + j, none⟩ = some (.string x) := by
        intro j x hx
        have hj : j < 5 := by have := (List.getElem?_eq_some_iff.1 hx).1; simpa using this
        have hd : j = 0 ∨ j = 1 ∨ j = 2 ∨ j = 3 ∨ j = 4 := by omega
        rcases hd with rfl | rfl | rfl | rfl | rfl <;> (simp at hx; subst hx; simpa)
      have HC := Any.hidJ hcs
      clear hcs y0 g0 y1 g1 y2 g2 y3 g3 y4 g4
      go_wp2_with fail
      refine (Tryz.strings_Join w.heap.size 0 5 [⟨s0.toArray⟩, ⟨s1.toArray⟩, ⟨s2.toArray⟩, ⟨s3.toArray⟩, ⟨s4.toArray⟩] ⟨[sep].toArray⟩ _ HC.out hBs (by simp) (by simp) (by simp [Lib.join, List.intercalate]; omega)).mono ?_
      rintro e w3 ⟨rfl, hb3⟩
      go_wp2
      go_ret
      exact ⟨ret_ba (by simp), hBw.trans (hb3.mono (by omega))⟩

set_option maxHeartbeats 4000000 in
theorem jn6 (p o c : Nat) (z0 z1 z2 z3 z4 z5 : Int) (s0 s1 s2 s3 s4 s5 : List UInt8) (sep : UInt8) (r base : Int) (w : World) (hp : p < w.heap.size)
    (hsep : ∀ wx, (convert 21 9 (.int .i32 r)).run Tryz.prog wx = .ok (.string ⟨[sep].toArray⟩) wx)
    (c0 : w.cell? ⟨p, o, none⟩ = some (.int .i64 z0)) (c1 : w.cell? ⟨p, o + 1, none⟩ = some (.int .i64 z1)) (c2 : w.cell? ⟨p, o + 2, none⟩ = some (.int .i64 z2)) (c3 : w.cell? ⟨p, o + 3, none⟩ = some (.int .i64 z3)) (c4 : w.cell? ⟨p, o + 4, none⟩ = some (.int .i64 z4)) (c5 : w.cell? ⟨p, o + 5, none⟩ = some (.int .i64 z5)) (n0 : s0.length ≤ 4) (n1 : s1.length ≤ 4) (n2 : s2.length ≤ 4) (n3 : s3.length ≤ 4) (n4 : s4.length ≤ 4) (n5 : s5.length ≤ 4)
    (f0 : Hid (∀ wx : World, Below w.heap.size w wx → Calls Tryz.prog 102 #[.int .i64 z0, .int .i64 base] wx fun e w' => e = .returned (.string ⟨s0.toArray⟩) ∧ Below wx.heap.size wx w'))
    (f1 : Hid (∀ wx : World, Below w.heap.size w wx → Calls Tryz.prog 102 #[.int .i64 z1, .int .i64 base] wx fun e w' => e = .returned (.string ⟨s1.toArray⟩) ∧ Below wx.heap.size wx w'))
    (f2 : Hid (∀ wx : World, Below w.heap.size w wx → Calls Tryz.prog 102 #[.int .i64 z2, .int .i64 base] wx fun e w' => e = .returned (.string ⟨s2.toArray⟩) ∧ Below wx.heap.size wx w'))
    (f3 : Hid (∀ wx : World, Below w.heap.size w wx → Calls Tryz.prog 102 #[.int .i64 z3, .int .i64 base] wx fun e w' => e = .returned (.string ⟨s3.toArray⟩) ∧ Below wx.heap.size wx w'))
    (f4 : Hid (∀ wx : World, Below w.heap.size w wx → Calls Tryz.prog 102 #[.int .i64 z4, .int .i64 base] wx fun e w' => e = .returned (.string ⟨s4.toArray⟩) ∧ Below wx.heap.size wx w'))
    (f5 : Hid (∀ wx : World, Below w.heap.size w wx → Calls Tryz.prog 102 #[.int .i64 z5, .int .i64 base] wx fun e w' => e = .returned (.string ⟨s5.toArray⟩) ∧ Below wx.heap.size wx w')) :
    Calls Tryz.prog 99 #[.slice (some ⟨p, o, none⟩) 6 c, .int .i32 r, .int .i64 base] w fun e w' => e = .returned (.string ⟨(Lib.join [s0, s1, s2, s3, s4, s5] [sep]).toArray⟩) ∧ Below w.heap.size w w' := by
  have hmk : ∀ wx : World, (Instr.makeSlice 165 (.int .i64 6) (.int .i64 6)).run Tryz.prog wx = .ok (.slice (some ⟨wx.heap.size, 0, none⟩) 6 6) (wx.alloc (.cells #[.string ⟨#[]⟩, .string ⟨#[]⟩, .string ⟨#[]⟩, .string ⟨#[]⟩, .string ⟨#[]⟩, .string ⟨#[]⟩] 9)) := fun _ => by kernel_rfl
  go_enter Tryz.func99, Tryz.ntmps99
  go_wp2_with fail
  go_loopw [15] (fun t15 x => (t15 = .int .i64 0 ∧ x.cell? ⟨w.heap.size, 0, none⟩ = some (.string ⟨#[]⟩) ∧ x.cell? ⟨w.heap.size, 1, none⟩ = some (.string ⟨#[]⟩) ∧ x.cell? ⟨w.heap.size, 2, none⟩ = some (.string ⟨#[]⟩) ∧ x.cell? ⟨w.heap.size, 3, none⟩ = some (.string ⟨#[]⟩) ∧ x.cell? ⟨w.heap.size, 4, none⟩ = some (.string ⟨#[]⟩) ∧ x.cell? ⟨w.heap.size, 5, none⟩ = some (.string ⟨#[]⟩) ∧ x.frozen? ⟨w.heap.size, 0, none⟩ = false ∧ x.frozen? ⟨w.heap.size, 1, none⟩ = false ∧ x.frozen? ⟨w.heap.size, 2, none⟩ = false ∧ x.frozen? ⟨w.heap.size, 3, none⟩ = false ∧ x.frozen? ⟨w.heap.size, 4, none⟩ = false ∧ x.frozen? ⟨w.heap.size, 5, none⟩ = false ∧ Below w.heap.size w x ∧ w.heap.size < x.heap.size) ∨ (t15 = .int .i64 1 ∧ x.cell? ⟨w.heap.size, 0, none⟩ = some (.string ⟨s0.toArray⟩) ∧ x.cell? ⟨w.heap.size, 1, none⟩ = some (.string ⟨#[]⟩) ∧ x.cell? ⟨w.heap.size, 2, none⟩ = some (.string ⟨#[]⟩) ∧ x.cell? ⟨w.heap.size, 3, none⟩ = some (.string ⟨#[]⟩) ∧ x.cell? ⟨w.heap.size, 4, none⟩ = some (.string ⟨#[]⟩) ∧ x.cell? ⟨w.heap.size, 5, none⟩ = some (.string ⟨#[]⟩) ∧ x.frozen? ⟨w.heap.size, 0, none⟩ = false ∧ x.frozen? ⟨w.heap.size, 1, none⟩ = false ∧ x.frozen? ⟨w.heap.size, 2, none⟩ = false ∧ x.frozen? ⟨w.heap.size, 3, none⟩ = false ∧ x.frozen? ⟨w.heap.size, 4, none⟩ = false ∧ x.frozen? ⟨w.heap.size, 5, none⟩ = false ∧ Below w.heap.size w x ∧ w.heap.size < x.heap.size) ∨ (t15 = .int .i64 2 ∧ x.cell? ⟨w.heap.size, 0, none⟩ = some (.string ⟨s0.toArray⟩) ∧ x.cell? ⟨w.heap.size, 1, none⟩ = some (.string ⟨s1.toArray⟩) ∧ x.cell? ⟨w.heap.size, 2, none⟩ = some (.string ⟨#[]⟩) ∧ x.cell? ⟨w.heap.size, 3, none⟩ = some (.string ⟨#[]⟩) ∧ x.cell? ⟨w.heap.size, 4, none⟩ = some (.string ⟨#[]⟩) ∧ x.cell? ⟨w.heap.size, 5, none⟩ = some (.string ⟨#[]⟩) ∧ x.frozen? ⟨w.heap.size, 0, none⟩ = false ∧ x.frozen? ⟨w.heap.size, 1, none⟩ = false ∧ x.frozen? ⟨w.heap.size, 2, none⟩ = false ∧ x.frozen? ⟨w.heap.size, 3, none⟩ = false ∧ x.frozen? ⟨w.heap.size, 4, none⟩ = false ∧ x.frozen? ⟨w.heap.size, 5, none⟩ = false ∧ Below w.heap.size w x ∧ w.heap.size < x.heap.size) ∨ (t15 = .int .i64 3 ∧ x.cell? ⟨w.heap.size, 0, none⟩ = some (.string ⟨s0.toArray⟩) ∧ x.cell? ⟨w.heap.size, 1, none⟩ = some (.string ⟨s1.toArray⟩) ∧ x.cell? ⟨w.heap.size, 2, none⟩ = some (.string ⟨s2.toArray⟩) ∧ x.cell? ⟨w.heap.size, 3, none⟩ = some (.string ⟨#[]⟩) ∧ x.cell? ⟨w.heap.size, 4, none⟩ = some (.string ⟨#[]⟩) ∧ x.cell? ⟨w.heap.size, 5, none⟩ = some (.string ⟨#[]⟩) ∧ x.frozen? ⟨w.heap.size, 0, none⟩ = false ∧ x.frozen? ⟨w.heap.size, 1, none⟩ = false ∧ x.frozen? ⟨w.heap.size, 2, none⟩ = false ∧ x.frozen? ⟨w.heap.size, 3, none⟩ = false ∧ x.frozen? ⟨w.heap.size, 4, none⟩ = false ∧ x.frozen? ⟨w.heap.size, 5, none⟩ = false ∧ Below w.heap.size w x ∧ w.heap.size < x.heap.size) ∨ (t15 = .int .i64 4 ∧ x.cell? ⟨w.heap.size, 0, none⟩ = some (.string ⟨s0.toArray⟩) ∧ x.cell? ⟨w.heap.size, 1, none⟩ = some (.string ⟨s1.toArray⟩) ∧ x.cell? ⟨w.heap.size, 2, none⟩ = some (.string ⟨s2.toArray⟩) ∧ x.cell? ⟨w.heap.size, 3, none⟩ = some (.string ⟨s3.toArray⟩) ∧ x.cell? ⟨w.heap.size, 4, none⟩ = some (.string ⟨#[]⟩) ∧ x.cell? ⟨w.heap.size, 5, none⟩ = some (.string ⟨#[]⟩) ∧ x.frozen? ⟨w.heap.size, 0, none⟩ = false ∧ x.frozen? ⟨w.heap.size, 1, none⟩ = false ∧ x.frozen? ⟨w.heap.size, 2, none⟩ = false ∧ x.frozen? ⟨w.heap.size, 3, none⟩ = false ∧ x.frozen? ⟨w.heap.size, 4, none⟩ = false ∧ x.frozen? ⟨w.heap.size, 5, none⟩ = false ∧ Below w.heap.size w x ∧ w.heap.size < x.heap.size) ∨ (t15 = .int .i64 5 ∧ x.cell? ⟨w.heap.size, 0, none⟩ = some (.string ⟨s0.toArray⟩) ∧ x.cell? ⟨w.heap.size, 1, none⟩ = some (.string ⟨s1.toArray⟩) ∧ x.cell? ⟨w.heap.size, 2, none⟩ = some (.string ⟨s2.toArray⟩) ∧ x.cell? ⟨w.heap.size, 3, none⟩ = some (.string ⟨s3.toArray⟩) ∧ x.cell? ⟨w.heap.size, 4, none⟩ = some (.string ⟨s4.toArray⟩) ∧ x.cell? ⟨w.heap.size, 5, none⟩ = some (.string ⟨#[]⟩) ∧ x.frozen? ⟨w.heap.size, 0, none⟩ = false ∧ x.frozen? ⟨w.heap.size, 1, none⟩ = false ∧ x.frozen? ⟨w.heap.size, 2, none⟩ = false ∧ x.frozen? ⟨w.heap.size, 3, none⟩ = false ∧ x.frozen? ⟨w.heap.size, 4, none⟩ = false ∧ x.frozen? ⟨w.heap.size, 5, none⟩ = false ∧ Below w.heap.size w x ∧ w.heap.size < x.heap.size) ∨ (t15 = .int .i64 6 ∧ x.cell? ⟨w.heap.size, 0, none⟩ = some (.string ⟨s0.toArray⟩) ∧ x.cell? ⟨w.heap.size, 1, none⟩ = some (.string ⟨s1.toArray⟩) ∧ x.cell? ⟨w.heap.size, 2, none⟩ = some (.string ⟨s2.toArray⟩) ∧ x.cell? ⟨w.heap.size, 3, none⟩ = some (.string ⟨s3.toArray⟩) ∧ x.cell? ⟨w.heap.size, 4, none⟩ = some (.string ⟨s4.toArray⟩) ∧ x.cell? ⟨w.heap.size, 5, none⟩ = some (.string ⟨s5.toArray⟩) ∧ x.frozen? ⟨w.heap.size, 0, none⟩ = false ∧ x.frozen? ⟨w.heap.size, 1, none⟩ = false ∧ x.frozen? ⟨w.heap.size, 2, none⟩ = false ∧ x.frozen? ⟨w.heap.size, 3, none⟩ = false ∧ x.frozen? ⟨w.heap.size, 4, none⟩ = false ∧ x.frozen? ⟨w.heap.size, 5, none⟩ = false ∧ Below w.heap.size w x ∧ w.heap.size < x.heap.size)) (fun t15 _ => (6 - intOf t15).toNat)
  case atStart => exact Or.inl ⟨rfl, by simp [go_sem], by simp [go_sem], by simp [go_sem], by simp [go_sem], by simp [go_sem], by simp [go_sem], by simp [go_sem], by simp [go_sem], by simp [go_sem], by simp [go_sem], by simp [go_sem], by simp [go_sem], (Below.refl _ w).alloc (Nat.le_refl _) _, by simp⟩
  case round =>
    rcases hrel with ⟨rfl, y0, y1, y2, y3, y4, y5, g0, g1, g2, g3, g4, g5, hBw, hBs⟩ | ⟨rfl, y0, y1, y2, y3, y4, y5, g0, g1, g2, g3, g4, g5, hBw, hBs⟩ | ⟨rfl, y0, y1, y2, y3, y4, y5, g0, g1, g2, g3, g4, g5, hBw, hBs⟩ | ⟨rfl, y0, y1, y2, y3, y4, y5, g0, g1, g2, g3, g4, g5, hBw, hBs⟩ | ⟨rfl, y0, y1, y2, y3, y4, y5, g0, g1, g2, g3, g4, g5, hBw, hBs⟩ | ⟨rfl, y0, y1, y2, y3, y4, y5, g0, g1, g2, g3, g4, g5, hBw, hBs⟩ | ⟨rfl, y0, y1, y2, y3, y4, y5, g0, g1, g2, g3, g4, g5, hBw, hBs⟩
    · have q : wr.cell? ⟨p, o, none⟩ = some (.int .i64 z0) := (hBw.cell hp).trans c0
      go_wp2_with fail
      refine (f0.out _ hBw).mono ?_
      rintro e w2 ⟨rfl, hb2⟩
      rw [← hb2.cell (p := ⟨w.heap.size, 0, none⟩) hBs] at y0
      rw [← hb2.frozen (p := ⟨w.heap.size, 0, none⟩) hBs] at g0
      rw [← hb2.cell (p := ⟨w.heap.size, 1, none⟩) hBs] at y1
      rw [← hb2.frozen (p := ⟨w.heap.size, 1, none⟩) hBs] at g1
      rw [← hb2.cell (p := ⟨w.heap.size, 2, none⟩) hBs] at y2
      rw [← hb2.frozen (p := ⟨w.heap.size, 2, none⟩) hBs] at g2
      rw [← hb2.cell (p := ⟨w.heap.size, 3, none⟩) hBs] at y3
      rw [← hb2.frozen (p := ⟨w.heap.size, 3, none⟩) hBs] at g3
      rw [← hb2.cell (p := ⟨w.heap.size, 4, none⟩) hBs] at y4
      rw [← hb2.frozen (p := ⟨w.heap.size, 4, none⟩) hBs] at g4
      rw [← hb2.cell (p := ⟨w.heap.size, 5, none⟩) hBs] at y5
      rw [← hb2.frozen (p := ⟨w.heap.size, 5, none⟩) hBs] at g5
      have r1 : Below w.heap.size w w2 := hBw.trans (hb2.mono (by omega))
      have r2 : w.heap.size < w2.heap.size := by have := hb2.size; omega
      clear hb2 hBw hBs q
      go_wp2
      refine ⟨Or.inr (Or.inl ⟨rfl, ?_, ?_, ?_, ?_, ?_, ?_, ?_, ?_, ?_, ?_, ?_, ?_, r1.setCell (by simp) _, by simpa using r2⟩), by simp [intOf]⟩
      all_goals go_simp
    · have q : wr.cell? ⟨p, o + 1, none⟩ = some (.int .i64 z1) := (hBw.cell hp).trans c1
      go_wp2_with fail
      refine (f1.out _ hBw).mono ?_
      rintro e w2 ⟨rfl, hb2⟩
      rw [← hb2.cell (p := ⟨w.heap.size, 0, none⟩) hBs] at y0
      rw [← hb2.frozen (p := ⟨w.heap.size, 0, none⟩) hBs] at g0
      rw [← hb2.cell (p := ⟨w.heap.size, 1, none⟩) hBs] at y1
      rw [← hb2.frozen (p := ⟨w.heap.size, 1, none⟩) hBs] at g1
      rw [← hb2.cell (p := ⟨w.heap.size, 2, none⟩) hBs] at y2
      rw [← hb2.frozen (p := ⟨w.heap.size, 2, none⟩) hBs] at g2
      rw [← hb2.cell (p := ⟨w.heap.size, 3, none⟩) hBs] at y3
      rw [← hb2.frozen (p := ⟨w.heap.size, 3, none⟩) hBs] at g3
      rw [← hb2.cell (p := ⟨w.heap.size, 4, none⟩) hBs] at y4
      rw [← hb2.frozen (p := ⟨w.heap.size, 4, none⟩) hBs] at g4
      rw [← hb2.cell (p := ⟨w.heap.size, 5, none⟩) hBs] at y5
      rw [← hb2.frozen (p := ⟨w.heap.size, 5, none⟩) hBs] at g5
      have r1 : Below w.heap.size w w2 := hBw.trans (hb2.mono (by omega))
      have r2 : w.heap.size < w2.heap.size := by have := hb2.size; omega
      clear hb2 hBw hBs q
      go_wp2
      refine ⟨Or.inr (Or.inr (Or.inl ⟨rfl, ?_, ?_, ?_, ?_, ?_, ?_, ?_, ?_, ?_, ?_, ?_, ?_, r1.setCell (by simp) _, by simpa using r2⟩)), by simp [intOf]⟩
      all_goals go_simp
    · have q : wr.cell? ⟨p, o + 2, none⟩ = some (.int .i64 z2) := (hBw.cell hp).trans c2
      go_wp2_with fail
      refine (f2.out _ hBw).mono ?_
      rintro e w2 ⟨rfl, hb2⟩
      rw [← hb2.cell (p := ⟨w.heap.size, 0, none⟩) hBs] at y0
      rw [← hb2.frozen (p := ⟨w.heap.size, 0, none⟩) hBs] at g0
      rw [← hb2.cell (p := ⟨w.heap.size, 1, none⟩) hBs] at y1
      rw [← hb2.frozen (p := ⟨w.heap.size, 1, none⟩) hBs] at g1
      rw [← hb2.cell (p := ⟨w.heap.size, 2, none⟩) hBs] at y2
      rw [← hb2.frozen (p := ⟨w.heap.size, 2, none⟩) hBs] at g2
      rw [← hb2.cell (p := ⟨w.heap.size, 3, none⟩) hBs] at y3
      rw [← hb2.frozen (p := ⟨w.heap.size, 3, none⟩) hBs] at g3
      rw [← hb2.cell (p := ⟨w.heap.size, 4, none⟩) hBs] at y4
      rw [← hb2.frozen (p := ⟨w.heap.size, 4, none⟩) hBs] at g4
      rw [← hb2.cell (p := ⟨w.heap.size, 5, none⟩) hBs] at y5
      rw [← hb2.frozen (p := ⟨w.heap.size, 5, none⟩) hBs] at g5
      have r1 : Below w.heap.size w w2 := hBw.trans (hb2.mono (by omega))
      have r2 : w.heap.size < w2.heap.size := by have := hb2.size; omega
      clear hb2 hBw hBs q
      go_wp2
      refine ⟨Or.inr (Or.inr (Or.inr (Or.inl ⟨rfl, ?_, ?_, ?_, ?_, ?_, ?_, ?_, ?_, ?_, ?_, ?_, ?_, r1.setCell (by simp) _, by simpa using r2⟩))), by simp [intOf]⟩
      all_goals go_simp
    · have q : wr.cell? ⟨p, o + 3, none⟩ = some (.int .i64 z3) := (hBw.cell hp).trans c3
      go_wp2_with fail
      refine (f3.out _ hBw).mono ?_
      rintro e w2 ⟨rfl, hb2⟩
      rw [← hb2.cell (p := ⟨w.heap.size, 0, none⟩) hBs] at y0
      rw [← hb2.frozen (p := ⟨w.heap.size, 0, none⟩) hBs] at g0
      rw [← hb2.cell (p := ⟨w.heap.size, 1, none⟩) hBs] at y1
      rw [← hb2.frozen (p := ⟨w.heap.size, 1, none⟩) hBs] at g1
      rw [← hb2.cell (p := ⟨w.heap.size, 2, none⟩) hBs] at y2
      rw [← hb2.frozen (p := ⟨w.heap.size, 2, none⟩) hBs] at g2
      rw [← hb2.cell (p := ⟨w.heap.size, 3, none⟩) hBs] at y3
      rw [← hb2.frozen (p := ⟨w.heap.size, 3, none⟩) hBs] at g3
      rw [← hb2.cell (p := ⟨w.heap.size, 4, none⟩) hBs] at y4
      rw [← hb2.frozen (p := ⟨w.heap.size, 4, none⟩) hBs] at g4
      rw [← hb2.cell (p := ⟨w.heap.size, 5, none⟩) hBs] at y5
      rw [← hb2.frozen (p := ⟨w.heap.size, 5, none⟩) hBs] at g5
      have r1 : Below w.heap.size w w2 := hBw.trans (hb2.mono (by omega))
      have r2 : w.heap.size < w2.heap.size := by have := hb2.size; omega
      clear hb2 hBw hBs q
      go_wp2
      refine ⟨Or.inr (Or.inr (Or.inr (Or.inr (Or.inl ⟨rfl, ?_, ?_, ?_, ?_, ?_, ?_, ?_, ?_, ?_, ?_, ?_, ?_, r1.setCell (by simp) _, by simpa using r2⟩)))), by simp [intOf]⟩
      all_goals go_simp
    · have q : wr.cell? ⟨p, o + 4, none⟩ = some (.int .i64 z4) := (hBw.cell hp).trans c4
      go_wp2_with fail
      refine (f4.out _ hBw).mono ?_
      rintro e w2 ⟨rfl, hb2⟩
      rw [← hb2.cell (p := ⟨w.heap.size, 0, none⟩) hBs] at y0
      rw [← hb2.frozen (p := ⟨w.heap.size, 0, none⟩) hBs] at g0
      rw [← hb2.cell (p := ⟨w.heap.size, 1, none⟩) hBs] at y1
      rw [← hb2.frozen (p := ⟨w.heap.size, 1, none⟩) hBs] at g1
      rw [← hb2.cell (p := ⟨w.heap.size, 2, none⟩) hBs] at y2
      rw [← hb2.frozen (p := ⟨w.heap.size, 2, none⟩) hBs] at g2
      rw [← hb2.cell (p := ⟨w.heap.size, 3, none⟩) hBs] at y3
      rw [← hb2.frozen (p := ⟨w.heap.size, 3, none⟩) hBs] at g3
      rw [← hb2.cell (p := ⟨w.heap.size, 4, none⟩) hBs] at y4
      rw [← hb2.frozen (p := ⟨w.heap.size, 4, none⟩) hBs] at g4
      rw [← hb2.cell (p := ⟨w.heap.size, 5, none⟩) hBs] at y5
      rw [← hb2.frozen (p := ⟨w.heap.size, 5, none⟩) hBs] at g5
      have r1 : Below w.heap.size w w2 := hBw.trans (hb2.mono (by omega))
      have r2 : w.heap.size < w2.heap.size := by have := hb2.size; omega
      clear hb2 hBw hBs q
      go_wp2
      refine ⟨Or.inr (Or.inr (Or.inr (Or.inr (Or.inr (Or.inl ⟨rfl, ?_, ?_, ?_, ?_, ?_, ?_, ?_, ?_, ?_, ?_, ?_, ?_, r1.setCell (by simp) _, by simpa using r2⟩))))), by simp [intOf]⟩
      all_goals go_simp
    · have q : wr.cell? ⟨p, o + 5, none⟩ = some (.int .i64 z5) := (hBw.cell hp).trans c5
      go_wp2_with fail
      refine (f5.out _ hBw).mono ?_
      rintro e w2 ⟨rfl, hb2⟩
      rw [← hb2.cell (p := ⟨w.heap.size, 0, none⟩) hBs] at y0
      rw [← hb2.frozen (p := ⟨w.heap.size, 0, none⟩) hBs] at g0
      rw [← hb2.cell (p := ⟨w.heap.size, 1, none⟩) hBs] at y1
      rw [← hb2.frozen (p := ⟨w.heap.size, 1, none⟩) hBs] at g1
      rw [← hb2.cell (p := ⟨w.heap.size, 2, none⟩) hBs] at y2
      rw [← hb2.frozen (p := ⟨w.heap.size, 2, none⟩) hBs] at g2
      rw [← hb2.cell (p := ⟨w.heap.size, 3, none⟩) hBs] at y3
      rw [← hb2.frozen (p := ⟨w.heap.size, 3, none⟩) hBs] at g3
      rw [← hb2.cell (p := ⟨w.heap.size, 4, none⟩) hBs] at y4
      rw [← hb2.frozen (p := ⟨w.heap.size, 4, none⟩) hBs] at g4
      rw [← hb2.cell (p := ⟨w.heap.size, 5, none⟩) hBs] at y5
      rw [← hb2.frozen (p := ⟨w.heap.size, 5, none⟩) hBs] at g5
      have r1 : Below w.heap.size w w2 := hBw.trans (hb2.mono (by omega))
      have r2 : w.heap.size < w2.heap.size := by have := hb2.size; omega
      clear hb2 hBw hBs q
      go_wp2
      refine ⟨Or.inr (Or.inr (Or.inr (Or.inr (Or.inr (Or.inr (⟨rfl, ?_, ?_, ?_, ?_, ?_, ?_, ?_, ?_, ?_, ?_, ?_, ?_, r1.setCell (by simp) _, by simpa using r2⟩)))))), by simp [intOf]⟩
      all_goals go_simp
    · skip
      have hcs : ∀ (j : Nat) x, ([⟨s0.toArray⟩, ⟨s1.toArray⟩, ⟨s2.toArray⟩, ⟨s3.toArray⟩, ⟨s4.toArray⟩, ⟨s5.toArray⟩] : List ByteArray)[j]? = some x → wr.cell? ⟨w.heap.size, 0 + j, none⟩ = some (.string x) := by
        intro j x hx
        have hj : j < 6 := by have := (List.getElem?_eq_some_iff.1 hx).1; simpa using this
        have hd : j = 0 ∨ j = 1 ∨ j = 2 ∨ j = 3 ∨ j = 4 ∨ j = 5 := by omega
        rcases hd with rfl | rfl | rfl | rfl | rfl | rfl <;> (simp at hx; subst hx; simpa)
      have HC := Any.hidJ hcs
      clear hcs y0 g0 y1 g1 y2 g2 y3 g3 y4 g4 y5 g5
      go_wp2_with fail
      refine (Tryz.strings_Join w.heap.size 0 6 [⟨s0.toArray⟩, ⟨s1.toArray⟩, ⟨s2.toArray⟩, ⟨s3.toArray⟩, ⟨s4.toArray⟩, ⟨s5.toArray⟩] ⟨[sep].toArray⟩ _ HC.out hBs (by simp) (by simp) (by simp [Lib.join, List.intercalate]; omega)).mono ?_
      rintro e w3 ⟨rfl, hb3⟩
      go_wp2
      go_ret
      exact ⟨ret_ba (by simp), hBw.trans (hb3.mono (by omega))⟩

set_option maxHeartbeats 4000000 in
theorem jn8 (p o c : Nat) (z0 z1 z2 z3 z4 z5 z6 z7 : Int) (s0 s1 s2 s3 s4 s5 s6 s7 : List UInt8) (sep : UInt8) (r base : Int) (w : World) (hp : p < w.heap.size)
    (hsep : ∀ wx, (convert 21 9 (.int .i32 r)).run Tryz.prog wx = .ok (.string ⟨[sep].toArray⟩) wx)
    (c0 : w.cell? ⟨p, o, none⟩ = some (.int .i64 z0)) (c1 : w.cell? ⟨p, o + 1, none⟩ = some (.int .i64 z1)) (c2 : w.cell? ⟨p, o + 2, none⟩ = some (.int .i64 z2)) (c3 : w.cell? ⟨p, o + 3, none⟩ = some (.int .i64 z3)) (c4 : w.cell? ⟨p, o + 4, none⟩ = some (.int .i64 z4)) (c5 : w.cell? ⟨p, o + 5, none⟩ = some (.int .i64 z5)) (c6 : w.cell? ⟨p, o + 6, none⟩ = some (.int .i64 z6)) (c7 : w.cell? ⟨p, o + 7, none⟩ = some (.int .i64 z7)) (n0 : s0.length ≤ 4) (n1 : s1.length ≤ 4) (n2 : s2.length ≤ 4) (n3 : s3.length ≤ 4) (n4 : s4.length ≤ 4) (n5 : s5.length ≤ 4) (n6 : s6.length ≤ 4) (n7 : s7.length ≤ 4)
    (f0 : Hid (∀ wx : World, Below w.heap.size w wx → Calls Tryz.prog 102 #[.int .i64 z0, .int .i64 base] wx fun e w' => e = .returned (.string ⟨s0.toArray⟩) ∧ Below wx.heap.size wx w'))
    (f1 : Hid (∀ wx : World, Below w.heap.size w wx → Calls Tryz.prog 102 #[.int .i64 z1, .int .i64 base] wx fun e w' => e = .returned (.string ⟨s1.toArray⟩) ∧ Below wx.heap.size wx w'))
    (f2 : Hid (∀ wx : World, Below w.heap.size w wx → Calls Tryz.prog 102 #[.int .i64 z2, .int .i64 base] wx fun e w' => e = .returned (.string ⟨s2.toArray⟩) ∧ Below wx.heap.size wx w'))
    (f3 : Hid (∀ wx : World, Below w.heap.size w wx → Calls Tryz.prog 102 #[.int .i64 z3, .int .i64 base] wx fun e w' => e = .returned (.string ⟨s3.toArray⟩) ∧ Below wx.heap.size wx w'))
    (f4 : Hid (∀ wx : World, Below w.heap.size w wx → Calls Tryz.prog 102 #[.int .i64 z4, .int .i64 base] wx fun e w' => e = .returned (.string ⟨s4.toArray⟩) ∧ Below wx.heap.size wx w'))
    (f5 : Hid (∀ wx : World, Below w.heap.size w wx → Calls Tryz.prog 102 #[.int .i64 z5, .int .i64 base] wx fun e w' => e = .returned (.string ⟨s5.toArray⟩) ∧ Below wx.heap.size wx w'))
    (f6 : Hid (∀ wx : World, Below w.heap.size w wx → Calls Tryz.prog 102 #[.int .i64 z6, .int .i64 base] wx fun e w' => e = .returned (.string ⟨s6.toArray⟩) ∧ Below wx.heap.size wx w'))
    (f7 : Hid (∀ wx : World, Below w.heap.size w wx → Calls Tryz.prog 102 #[.int .i64 z7, .int .i64 base] wx fun e w' => e = .returned (.string ⟨s7.toArray⟩) ∧ Below wx.heap.size wx w')) :
    Calls Tryz.prog 99 #[.slice (some ⟨p, o, none⟩) 8 c, .int .i32 r, .int .i64 base] w fun e w' => e = .returned (.string ⟨(Lib.join [s0, s1, s2, s3, s4, s5, s6, s7] [sep]).toArray⟩) ∧ Below w.heap.size w w' := by
  have hmk : ∀ wx : World, (Instr.makeSlice 165 (.int .i64 8) (.int .i64 8)).run Tryz.prog wx = .ok (.slice (some ⟨wx.heap.size, 0, none⟩) 8 8) (wx.alloc (.cells #[.string ⟨#[]⟩, .string ⟨#[]⟩, .string ⟨#[]⟩, .string ⟨#[]⟩, .string ⟨#[]⟩, .string ⟨#[]⟩, .string ⟨#[]⟩, .string ⟨#[]⟩] 9)) := fun _ => by kernel_rfl
  go_enter Tryz.func99, Tryz.ntmps99
  go_wp2_with fail
  go_loopw [15] (fun t15 x => (t15 = .int .i64 0 ∧ x.cell? ⟨w.heap.size, 0, none⟩ = some (.string ⟨#[]⟩) ∧ x.cell? ⟨w.heap.size, 1, none⟩ = some (.string ⟨#[]⟩) ∧ x.cell? ⟨w.heap.size, 2, none⟩ = some (.string ⟨#[]⟩) ∧ x.cell? ⟨w.heap.size, 3, none⟩ = some (.string ⟨#[]⟩) ∧ x.cell? ⟨w.heap.size, 4, none⟩ = some (.string ⟨#[]⟩) ∧ x.cell? ⟨w.heap.size, 5, none⟩ = some (.string ⟨#[]⟩) ∧ x.cell? ⟨w.heap.size, 6, none⟩ = some (.string ⟨#[]⟩) ∧ x.cell? ⟨w.heap.size, 7, none⟩ = some (.string ⟨#[]⟩) ∧ x.frozen? ⟨w.heap.size, 0, none⟩ = false ∧ x.frozen? ⟨w.heap.size, 1, none⟩ = false ∧ x.frozen? ⟨w.heap.size, 2, none⟩ = false ∧ x.frozen? ⟨w.heap.size, 3, none⟩ = false ∧ x.frozen? ⟨w.heap.size, 4, none⟩ = false ∧ x.frozen? ⟨w.heap.size, 5, none⟩ = false ∧ x.frozen? ⟨w.heap.size, 6, none⟩ = false ∧ x.frozen? ⟨w.heap.size, 7, none⟩ = false ∧ Below w.heap.size w x ∧ w.heap.size < x.heap.size) ∨ (t15 = .int .i64 1 ∧ x.cell? ⟨w.heap.size, 0, none⟩ = some (.string ⟨s0.toArray⟩) ∧ x.cell? ⟨w.heap.size, 1, none⟩ = some (.string ⟨#[]⟩) ∧ x.cell? ⟨w.heap.size, 2, none⟩ = some (.string ⟨#[]⟩) ∧ x.cell? ⟨w.heap.size, 3, none⟩ = some (.string ⟨#[]⟩) ∧ x.cell? ⟨w.heap.size, 4, none⟩ = some (.string ⟨#[]⟩) ∧ x.cell? ⟨w.heap.size, 5, none⟩ = some (.string ⟨#[]⟩) ∧ x.cell? ⟨w.heap.size, 6, none⟩ = some (.string ⟨#[]⟩) ∧ x.cell? ⟨w.heap.size, 7, none⟩ = some (.string ⟨#[]⟩) ∧ x.frozen? ⟨w.heap.size, 0, none⟩ = false ∧ x.frozen? ⟨w.heap.size, 1, none⟩ = false ∧ x.frozen? ⟨w.heap.size, 2, none⟩ = false ∧ x.frozen? ⟨w.heap.size, 3, none⟩ = false ∧ x.frozen? ⟨w.heap.size, 4, none⟩ = false ∧ x.frozen? ⟨w.heap.size, 5, none⟩ = false ∧ x.frozen? ⟨w.heap.size, 6, none⟩ = false ∧ x.frozen? ⟨w.heap.size, 7, none⟩ = false ∧ Below w.heap.size w x ∧ w.heap.size < x.heap.size) ∨ (t15 = .int .i64 2 ∧ x.cell? ⟨w.heap.size, 0, none⟩ = some (.string ⟨s0.toArray⟩) ∧ x.cell? ⟨w.heap.size, 1, none⟩ = some (.string ⟨s1.toArray⟩) ∧ x.cell? ⟨w.heap.size, 2, none⟩ = some (.string ⟨#[]⟩) ∧ x.cell? ⟨w.heap.size, 3, none⟩ = some (.string ⟨#[]⟩) ∧ x.cell? ⟨w.heap.size, 4, none⟩ = some (.string ⟨#[]⟩) ∧ x.cell? ⟨w.heap.size, 5, none⟩ = some (.string ⟨#[]⟩) ∧ x.cell? ⟨w.heap.size, 6, none⟩ = some (.string ⟨#[]⟩) ∧ x.cell? ⟨w.heap.size, 7, none⟩ = some (.string ⟨#[]⟩) ∧ x.frozen? ⟨w.heap.size, 0, none⟩ = false ∧ x.frozen? ⟨w.heap.size, 1, none⟩ = false ∧ x.frozen? ⟨w.heap.size, 2, none⟩ = false ∧ x.frozen? ⟨w.heap.size, 3, none⟩ = false ∧ x.frozen? ⟨w.heap.size, 4, none⟩ = false ∧ x.frozen? ⟨w.heap.size, 5, none⟩ = false ∧ x.frozen? ⟨w.heap.size, 6, none⟩ = false ∧ x.frozen? ⟨w.heap.size, 7, none⟩ = false ∧ Below w.heap.size w x ∧ w.heap.size < x.heap.size) ∨ (t15 = .int .i64 3 ∧ x.cell? ⟨w.heap.size, 0, none⟩ = some (.string ⟨s0.toArray⟩) ∧ x.cell? ⟨w.heap.size, 1, none⟩ = some (.string ⟨s1.toArray⟩) ∧ x.cell? ⟨w.heap.size, 2, none⟩ = some (.string ⟨s2.toArray⟩) ∧ x.cell? ⟨w.heap.size, 3, none⟩ = some (.string ⟨#[]⟩) ∧ x.cell? ⟨w.heap.size, 4, none⟩ = some (.string ⟨#[]⟩) ∧ x.cell? ⟨w.heap.size, 5, none⟩ = some (.string ⟨#[]⟩) ∧ x.cell? ⟨w.heap.size, 6, none⟩ = some (.string ⟨#[]⟩) ∧ x.cell? ⟨w.heap.size, 7, none⟩ = some (.string ⟨#[]⟩) ∧ x.frozen? ⟨w.heap.size, 0, none⟩ = false ∧ x.frozen? ⟨w.heap.size, 1, none⟩ = false ∧ x.frozen? ⟨w.heap.size, 2, none⟩ = false ∧ x.frozen? ⟨w.heap.size, 3, none⟩ = false ∧ x.frozen? ⟨w.heap.size, 4, none⟩ = false ∧ x.frozen? ⟨w.heap.size, 5, none⟩ = false ∧ x.frozen? ⟨w.heap.size, 6, none⟩ = false ∧ x.frozen? ⟨w.heap.size, 7, none⟩ = false ∧ Below w.heap.size w x ∧ w.heap.size < x.heap.size) ∨ (t15 = .int .i64 4 ∧ x.cell? ⟨w.heap.size, 0, none⟩ = some (.string ⟨s0.toArray⟩) ∧ x.cell? ⟨w.heap.size, 1, none⟩ = some (.string ⟨s1.toArray⟩) ∧ x.cell? ⟨w.heap.size, 2, none⟩ = some (.string ⟨s2.toArray⟩) ∧ x.cell? ⟨w.heap.size, 3, none⟩ = some (.string ⟨s3.toArray⟩) ∧ x.cell? ⟨w.heap.size, 4, none⟩ = some (.string ⟨#[]⟩) ∧ x.cell? ⟨w.heap.size, 5, none⟩ = some (.string ⟨#[]⟩) ∧ x.cell? ⟨w.heap.size, 6, none⟩ = some (.string ⟨#[]⟩) ∧ x.cell? ⟨w.heap.size, 7, none⟩ = some (.string ⟨#[]⟩) ∧ x.frozen? ⟨w.heap.size, 0, none⟩ = false ∧ x.frozen? ⟨w.heap.size, 1, none⟩ = false ∧ x.frozen? ⟨w.heap.size, 2, none⟩ = false ∧ x.frozen? ⟨w.heap.size, 3, none⟩ = false ∧ x.frozen? ⟨w.heap.size, 4, none⟩ = false ∧ x.frozen? ⟨w.heap.size, 5, none⟩ = false ∧ x.frozen? ⟨w.heap.size, 6, none⟩ = false ∧ x.frozen? ⟨w.heap.size, 7, none⟩ = false ∧ Below w.heap.size w x ∧ w.heap.size < x.heap.size) ∨ (t15 = .int .i64 5 ∧ x.cell? ⟨w.heap.size, 0, none⟩ = some (.string ⟨s0.toArray⟩) ∧ x.cell? ⟨w.heap.size, 1, none⟩ = some (.string ⟨s1.toArray⟩) ∧ x.cell? ⟨w.heap.size, 2, none⟩ = some (.string ⟨s2.toArray⟩) ∧ x.cell? ⟨w.heap.size, 3, none⟩ = some (.string ⟨s3.toArray⟩) ∧ x.cell? ⟨w.heap.size, 4, none⟩ = some (.string ⟨s4.toArray⟩) ∧ x.cell? ⟨w.heap.size, 5, none⟩ = some (.string ⟨#[]⟩) ∧ x.cell? ⟨w.heap.size, 6, none⟩ = some (.string ⟨#[]⟩) ∧ x.cell? ⟨w.heap.size, 7, none⟩ = some (.string ⟨#[]⟩) ∧ x.frozen? ⟨w.heap.size, 0, none⟩ = false ∧ x.frozen? ⟨w.heap.size, 1, none⟩ = false ∧ x.frozen? ⟨w.heap.size, 2, none⟩ = false ∧ x.frozen? ⟨w.heap.size, 3, none⟩ = false ∧ x.frozen? ⟨w.heap.size, 4, none⟩ = false ∧ x.frozen? ⟨w.heap.size, 5, none⟩ = false ∧ x.frozen? ⟨w.heap.size, 6, none⟩ = false ∧ x.frozen? ⟨w.heap.size, 7, none⟩ = false ∧ Below w.heap.size w x ∧ w.heap.size < x.heap.size) ∨ (t15 = .int .i64 6 ∧ x.cell? ⟨w.heap.size, 0, none⟩ = some (.string ⟨s0.toArray⟩) ∧ x.cell? ⟨w.heap.size, 1, none⟩ = some (.string ⟨s1.toArray⟩) ∧ x.cell? ⟨w.heap.size, 2, none⟩ = some (.string ⟨s2.toArray⟩) ∧ x.cell? ⟨w.heap.size, 3, none⟩ = some (.string ⟨s3.toArray⟩) ∧ x.cell? ⟨w.heap.size, 4, none⟩ = some (.string ⟨s4.toArray⟩) ∧ x.cell? ⟨w.heap.size, 5, none⟩ = some (.string ⟨s5.toArray⟩) ∧ x.cell? ⟨w.heap.size, 6, none⟩ = some (.string ⟨#[]⟩) ∧ x.cell? ⟨w.heap.size, 7, none⟩ = some (.string ⟨#[]⟩) ∧ x.frozen? ⟨w.heap.size, 0, none⟩ = false ∧ x.frozen? ⟨w.heap.size, 1, none⟩ = false ∧ x.frozen? ⟨w.heap.size, 2, none⟩ = false ∧ x.frozen? ⟨w.heap.size, 3, none⟩ = false ∧ x.frozen? ⟨w.heap.size, 4, none⟩ = false ∧ x.frozen? ⟨w.heap.size, 5, none⟩ = false ∧ x.frozen? ⟨w.heap.size, 6, none⟩ = false ∧ x.frozen? ⟨w.heap.size, 7, none⟩ = false ∧ Below w.heap.size w x ∧ w.heap.size < x.heap.size) ∨ (t15 = .int .i64 7 ∧ x.cell? ⟨w.heap.size, 0, none⟩ = some (.string ⟨s0.toArray⟩) ∧ x.cell? ⟨w.heap.size, 1, none⟩ = some (.string ⟨s1.toArray⟩) ∧ x.cell? ⟨w.heap.size, 2, none⟩ = some (.string ⟨s2.toArray⟩) ∧ x.cell? ⟨w.heap.size, 3, none⟩ = some (.string ⟨s3.toArray⟩) ∧ x.cell? ⟨w.heap.size, 4, none⟩ = some (.string ⟨s4.toArray⟩) ∧ x.cell? ⟨w.heap.size, 5, none⟩ = some (.string ⟨s5.toArray⟩) ∧ x.cell? ⟨w.heap.size, 6, none⟩ = some (.string ⟨s6.toArray⟩) ∧ x.cell? ⟨w.heap.size, 7, none⟩ = some (.string ⟨#[]⟩) ∧ x.frozen? ⟨w.heap.size, 0, none⟩ = false ∧ x.frozen? ⟨w.heap.size, 1, none⟩ = false ∧ x.frozen? ⟨w.heap.size, 2, none⟩ = false ∧ x.frozen? ⟨w.heap.size, 3, none⟩ = false ∧ x.frozen? ⟨w.heap.size, 4, none⟩ = false ∧ x.frozen? ⟨w.heap.size, 5, none⟩ = false ∧ x.frozen? ⟨w.heap.size, 6, none⟩ = false ∧ x.frozen? ⟨w.heap.size, 7, none⟩ = false ∧ Below w.heap.size w x ∧ w.heap.size < x.heap.size) ∨ (t15 = .int .i64 8 ∧ x.cell? ⟨w.heap.size, 0, none⟩ = some (.string ⟨s0.toArray⟩) ∧ x.cell? ⟨w.heap.size, 1, none⟩ = some (.string ⟨s1.toArray⟩) ∧ x.cell? ⟨w.heap.size, 2, none⟩ = some (.string ⟨s2.toArray⟩) ∧ x.cell? ⟨w.heap.size, 3, none⟩ = some (.string ⟨s3.toArray⟩) ∧ x.cell? ⟨w.heap.size, 4, none⟩ = some (.string ⟨s4.toArray⟩) ∧ x.cell? ⟨w.heap.size, 5, none⟩ = some (.string ⟨s5.toArray⟩) ∧ x.cell? ⟨w.heap.size, 6, none⟩ = some (.string ⟨s6.toArray⟩) ∧ x.cell? ⟨w.heap.size, 7, none⟩ = some (.string ⟨s7.toArray⟩) ∧ x.frozen? ⟨w.heap.size, 0, none⟩ = false ∧ x.frozen? ⟨w.heap.size, 1, none⟩ = false ∧ x.frozen? ⟨w.heap.size, 2, none⟩ = false ∧ x.frozen? ⟨w.heap.size, 3, none⟩ = false ∧ x.frozen? ⟨w.heap.size, 4, none⟩ = false ∧ x.frozen? ⟨w.heap.size, 5, none⟩ = false ∧ x.frozen? ⟨w.heap.size, 6, none⟩ = false ∧ x.frozen? ⟨w.heap.size, 7, none⟩ = false ∧ Below w.heap.size w x ∧ w.heap.size < x.heap.size)) (fun t15 _ => (8 - intOf t15).toNat)
  case atStart => exact Or.inl ⟨rfl, by simp [go_sem], by simp [go_sem], by simp [go_sem], by simp [go_sem], by simp [go_sem], by simp [go_sem], by simp [go_sem], by simp [go_sem], by simp [go_sem], by simp [go_sem], by simp [go_sem], by simp [go_sem], by simp [go_sem], by simp [go_sem], by simp [go_sem], by simp [go_sem], (Below.refl _ w).alloc (Nat.le_refl _) _, by simp⟩
  case round =>
    rcases hrel with ⟨rfl, y0, y1, y2, y3, y4, y5, y6, y7, g0, g1, g2, g3, g4, g5, g6, g7, hBw, hBs⟩ | ⟨rfl, y0, y1, y2, y3, y4, y5, y6, y7, g0, g1, g2, g3, g4, g5, g6, g7, hBw, hBs⟩ | ⟨rfl, y0, y1, y2, y3, y4, y5, y6, y7, g0, g1, g2, g3, g4, g5, g6, g7, hBw, hBs⟩ | ⟨rfl, y0, y1, y2, y3, y4, y5, y6, y7, g0, g1, g2, g3, g4, g5, g6, g7, hBw, hBs⟩ | ⟨rfl, y0, y1, y2, y3, y4, y5, y6, y7, g0, g1, g2, g3, g4, g5, g6, g7, hBw, hBs⟩ | ⟨rfl, y0, y1, y2, y3, y4, y5, y6, y7, g0, g1, g2, g3, g4, g5, g6, g7, hBw, hBs⟩ | ⟨rfl, y0, y1, y2, y3, y4, y5, y6, y7, g0, g1, g2, g3, g4, g5, g6, g7, hBw, hBs⟩ | ⟨rfl, y0, y1, y2, y3, y4, y5, y6, y7, g0, g1, g2, g3, g4, g5, g6, g7, hBw, hBs⟩ | ⟨rfl, y0, y1, y2, y3, y4, y5, y6, y7, g0, g1, g2, g3, g4, g5, g6, g7, hBw, hBs⟩
    · have q : wr.cell? ⟨p, o, none⟩ = some (.int .i64 z0) := (hBw.cell hp).trans c0
      go_wp2_with fail
      refine (f0.out _ hBw).mono ?_
      rintro e w2 ⟨rfl, hb2⟩
      rw [← hb2.cell (p := ⟨w.heap.size, 0, none⟩) hBs] at y0
      rw [← hb2.frozen (p := ⟨w.heap.size, 0, none⟩) hBs] at g0
      rw [← hb2.cell (p := ⟨w.heap.size, 1, none⟩) hBs] at y1
      rw [← hb2.frozen (p := ⟨w.heap.size, 1, none⟩) hBs] at g1
      rw [← hb2.cell (p := ⟨w.heap.size, 2, none⟩) hBs] at y2
      rw [← hb2.frozen (p := ⟨w.heap.size, 2, none⟩) hBs] at g2
      rw [← hb2.cell (p := ⟨w.heap.size, 3, none⟩) hBs] at y3
      rw [← hb2.frozen (p := ⟨w.heap.size, 3, none⟩) hBs] at g3
      rw [← hb2.cell (p := ⟨w.heap.size, 4, none⟩) hBs] at y4
      rw [← hb2.frozen (p := ⟨w.heap.size, 4, none⟩) hBs] at g4
      rw [← hb2.cell (p := ⟨w.heap.size, 5, none⟩) hBs] at y5
      rw [← hb2.frozen (p := ⟨w.heap.size, 5, none⟩) hBs] at g5
      rw [← hb2.cell (p := ⟨w.heap.size, 6, none⟩) hBs] at y6
      rw [← hb2.frozen (p := ⟨w.heap.size, 6, none⟩) hBs] at g6
      rw [← hb2.cell (p := ⟨w.heap.size, 7, none⟩) hBs] at y7
      rw [← hb2.frozen (p := ⟨w.heap.size, 7, none⟩) hBs] at g7
      have r1 : Below w.heap.size w w2 := hBw.trans (hb2.mono (by omega))
      have r2 : w.heap.size < w2.heap.size := by have := hb2.size; omega
      clear hb2 hBw hBs q
      go_wp2
      refine ⟨Or.inr (Or.inl ⟨rfl, ?_, ?_, ?_, ?_, ?_, ?_, ?_, ?_, ?_, ?_, ?_, ?_, ?_, ?_, ?_, ?_, r1.setCell (by simp) _, by simpa using r2⟩), by simp [intOf]⟩
      all_goals go_simp
    · have q : wr.cell? ⟨p, o + 1, none⟩ = some (.int .i64 z1) := (hBw.cell hp).trans c1
      go_wp2_with fail
      refine (f1.out _ hBw).mono ?_
      rintro e w2 ⟨rfl, hb2⟩
      rw [← hb2.cell (p := ⟨w.heap.size, 0, none⟩) hBs] at y0
      rw [← hb2.frozen (p := ⟨w.heap.size, 0, none⟩) hBs] at g0
      rw [← hb2.cell (p := ⟨w.heap.size, 1, none⟩) hBs] at y1
      rw [← hb2.frozen (p := ⟨w.heap.size, 1, none⟩) hBs] at g1
      rw [← hb2.cell (p := ⟨w.heap.size, 2, none⟩) hBs] at y2
      rw [← hb2.frozen (p := ⟨w.heap.size, 2, none⟩) hBs] at g2
      rw [← hb2.cell (p := ⟨w.heap.size, 3, none⟩) hBs] at y3
      rw [← hb2.frozen (p := ⟨w.heap.size, 3, none⟩) hBs] at g3
      rw [← hb2.cell (p := ⟨w.heap.size, 4, none⟩) hBs] at y4
      rw [← hb2.frozen (p := ⟨w.heap.size, 4, none⟩) hBs] at g4
      rw [← hb2.cell (p := ⟨w.heap.size, 5, none⟩) hBs] at y5
      rw [← hb2.frozen (p := ⟨w.heap.size, 5, none⟩) hBs] at g5
      rw [← hb2.cell (p := ⟨w.heap.size, 6, none⟩) hBs] at y6
      rw [← hb2.frozen (p := ⟨w.heap.size, 6, none⟩) hBs] at g6
      rw [← hb2.cell (p := ⟨w.heap.size, 7, none⟩) hBs] at y7
      rw [← hb2.frozen (p := ⟨w.heap.size, 7, none⟩) hBs] at g7
      have r1 : Below w.heap.size w w2 := hBw.trans (hb2.mono (by omega))
      have r2 : w.heap.size < w2.heap.size := by have := hb2.size; omega
      clear hb2 hBw hBs q
      go_wp2
      refine ⟨Or.inr (Or.inr (Or.inl ⟨rfl, ?_, ?_, ?_, ?_, ?_, ?_, ?_, ?_, ?_, ?_, ?_, ?_, ?_, ?_, ?_, ?_, r1.setCell (by simp) _, by simpa using r2⟩)), by simp [intOf]⟩
      all_goals go_simp
    · have q : wr.cell? ⟨p, o + 2, none⟩ = some (.int .i64 z2) := (hBw.cell hp).trans c2
      go_wp2_with fail
      refine (f2.out _ hBw).mono ?_
      rintro e w2 ⟨rfl, hb2⟩
      rw [← hb2.cell (p := ⟨w.heap.size, 0, none⟩) hBs] at y0
      rw [← hb2.frozen (p := ⟨w.heap.size, 0, none⟩) hBs] at g0
      rw [← hb2.cell (p := ⟨w.heap.size, 1, none⟩) hBs] at y1
      rw [← hb2.frozen (p := ⟨w.heap.size, 1, none⟩) hBs] at g1
      rw [← hb2.cell (p := ⟨w.heap.size, 2, none⟩) hBs] at y2
      rw [← hb2.frozen (p := ⟨w.heap.size, 2, none⟩) hBs] at g2
      rw [← hb2.cell (p := ⟨w.heap.size, 3, none⟩) hBs] at y3
      rw [← hb2.frozen (p := ⟨w.heap.size, 3, none⟩) hBs] at g3
      rw [← hb2.cell (p := ⟨w.heap.size, 4, none⟩) hBs] at y4
      rw [← hb2.frozen (p := ⟨w.heap.size, 4, none⟩) hBs] at g4
      rw [← hb2.cell (p := ⟨w.heap.size, 5, none⟩) hBs] at y5
      rw [← hb2.frozen (p := ⟨w.heap.size, 5, none⟩) hBs] at g5
      rw [← hb2.cell (p := ⟨w.heap.size, 6, none⟩) hBs] at y6
      rw [← hb2.frozen (p := ⟨w.heap.size, 6, none⟩) hBs] at g6
      rw [← hb2.cell (p := ⟨w.heap.size, 7, none⟩) hBs] at y7
      rw [← hb2.frozen (p := ⟨w.heap.size, 7, none⟩) hBs] at g7
      have r1 : Below w.heap.size w w2 := hBw.trans (hb2.mono (by omega))
      have r2 : w.heap.size < w2.heap.size := by have := hb2.size; omega
      clear hb2 hBw hBs q
      go_wp2
      refine ⟨Or.inr (Or.inr (Or.inr (Or.inl ⟨rfl, ?_, ?_, ?_, ?_, ?_, ?_, ?_, ?_, ?_, ?_, ?_, ?_, ?_, ?_, ?_, ?_, r1.setCell (by simp) _, by simpa using r2⟩))), by simp [intOf]⟩
      all_goals go_simp
    · have q : wr.cell? ⟨p, o + 3, none⟩ = some (.int .i64 z3) := (hBw.cell hp).trans c3
      go_wp2_with fail
      refine (f3.out _ hBw).mono ?_
      rintro e w2 ⟨rfl, hb2⟩
      rw [← hb2.cell (p := ⟨w.heap.size, 0, none⟩) hBs] at y0
      rw [← hb2.frozen (p := ⟨w.heap.size, 0, none⟩) hBs] at g0
      rw [← hb2.cell (p := ⟨w.heap.size, 1, none⟩) hBs] at y1
      rw [← hb2.frozen (p := ⟨w.heap.size, 1, none⟩) hBs] at g1
      rw [← hb2.cell (p := ⟨w.heap.size, 2, none⟩) hBs] at y2
      rw [← hb2.frozen (p := ⟨w.heap.size, 2, none⟩) hBs] at g2
      rw [← hb2.cell (p := ⟨w.heap.size, 3, none⟩) hBs] at y3
      rw [← hb2.frozen (p := ⟨w.heap.size, 3, none⟩) hBs] at g3
      rw [← hb2.cell (p := ⟨w.heap.size, 4, none⟩) hBs] at y4
      rw [← hb2.frozen (p := ⟨w.heap.size, 4, none⟩) hBs] at g4
      rw [← hb2.cell (p := ⟨w.heap.size, 5, none⟩) hBs] at y5
      rw [← hb2.frozen (p := ⟨w.heap.size, 5, none⟩) hBs] at g5
      rw [← hb2.cell (p := ⟨w.heap.size, 6, none⟩) hBs] at y6
      rw [← hb2.frozen (p := ⟨w.heap.size, 6, none⟩) hBs] at g6
      rw [← hb2.cell (p := ⟨w.heap.size, 7, none⟩) hBs] at y7
      rw [← hb2.frozen (p := ⟨w.heap.size, 7, none⟩) hBs] at g7
      have r1 : Below w.heap.size w w2 := hBw.trans (hb2.mono (by omega))
      have r2 : w.heap.size < w2.heap.size := by have := hb2.size; omega
      clear hb2 hBw hBs q
      go_wp2
      refine ⟨Or.inr (Or.inr (Or.inr (Or.inr (Or.inl ⟨rfl, ?_, ?_, ?_, ?_, ?_, ?_, ?_, ?_, ?_, ?_, ?_, ?_, ?_, ?_, ?_, ?_, r1.setCell (by simp) _, by simpa using r2⟩)))), by simp [intOf]⟩
      all_goals go_simp
    · have q : wr.cell? ⟨p, o + 4, none⟩ = some (.int .i64 z4) := (hBw.cell hp).trans c4
      go_wp2_with fail
      refine (f4.out _ hBw).mono ?_
      rintro e w2 ⟨rfl, hb2⟩
      rw [← hb2.cell (p := ⟨w.heap.size, 0, none⟩) hBs] at y0
      rw [← hb2.frozen (p := ⟨w.heap.size, 0, none⟩) hBs] at g0
      rw [← hb2.cell (p := ⟨w.heap.size, 1, none⟩) hBs] at y1
      rw [← hb2.frozen (p := ⟨w.heap.size, 1, none⟩) hBs] at g1
      rw [← hb2.cell (p := ⟨w.heap.size, 2, none⟩) hBs] at y2
      rw [← hb2.frozen (p := ⟨w.heap.size, 2, none⟩) hBs] at g2
      rw [← hb2.cell (p := ⟨w.heap.size, 3, none⟩) hBs] at y3
      rw [← hb2.frozen (p := ⟨w.heap.size, 3, none⟩) hBs] at g3
      rw [← hb2.cell (p := ⟨w.heap.size, 4, none⟩) hBs] at y4
      rw [← hb2.frozen (p := ⟨w.heap.size, 4, none⟩) hBs] at g4
      rw [← hb2.cell (p := ⟨w.heap.size, 5, none⟩) hBs] at y5
      rw [← hb2.frozen (p := ⟨w.heap.size, 5, none⟩) hBs] at g5
      rw [← hb2.cell (p := ⟨w.heap.size, 6, none⟩) hBs] at y6
      rw [← hb2.frozen (p := ⟨w.heap.size, 6, none⟩) hBs] at g6
      rw [← hb2.cell (p := ⟨w.heap.size, 7, none⟩) hBs] at y7
      rw [← hb2.frozen (p := ⟨w.heap.size, 7, none⟩) hBs] at g7
      have r1 : Below w.heap.size w w2 := hBw.trans (hb2.mono (by omega))
      have r2 : w.heap.size < w2.heap.size := by have := hb2.size; omega
      clear hb2 hBw hBs q
      go_wp2
      refine ⟨Or.inr (Or.inr (Or.inr (Or.inr (Or.inr (Or.inl ⟨rfl, ?_, ?_, ?_, ?_, ?_, ?_, ?_, ?_, ?_, ?_, ?_, ?_, ?_, ?_, ?_, ?_, r1.setCell (by simp) _, by simpa using r2⟩))))), by simp [intOf]⟩
      all_goals go_simp
    · have q : wr.cell? ⟨p, o + 5, none⟩ = some (.int .i64 z5) := (hBw.cell hp).trans c5
      go_wp2_with fail
      refine (f5.out _ hBw).mono ?_
      rintro e w2 ⟨rfl, hb2⟩
      rw [← hb2.cell (p := ⟨w.heap.size, 0, none⟩) hBs] at y0
      rw [← hb2.frozen (p := ⟨w.heap.size, 0, none⟩) hBs] at g0
      rw [← hb2.cell (p := ⟨w.heap.size, 1, none⟩) hBs] at y1
      rw [← hb2.frozen (p := ⟨w.heap.size, 1, none⟩) hBs] at g1
      rw [← hb2.cell (p := ⟨w.heap.size, 2, none⟩) hBs] at y2
      rw [← hb2.frozen (p := ⟨w.heap.size, 2, none⟩) hBs] at g2
      rw [← hb2.cell (p := ⟨w.heap.size, 3, none⟩) hBs] at y3
      rw [← hb2.frozen (p := ⟨w.heap.size, 3, none⟩) hBs] at g3
      rw [← hb2.cell (p := ⟨w.heap.size, 4, none⟩) hBs] at y4
      rw [← hb2.frozen (p := ⟨w.heap.size, 4, none⟩) hBs] at g4
      rw [← hb2.cell (p := ⟨w.heap.size, 5, none⟩) hBs] at y5
      rw [← hb2.frozen (p := ⟨w.heap.size, 5, none⟩) hBs] at g5
      rw [← hb2.cell (p := ⟨w.heap.size, 6, none⟩) hBs] at y6
      rw [← hb2.frozen (p := ⟨w.heap.size, 6, none⟩) hBs] at g6
      rw [← hb2.cell (p := ⟨w.heap.size, 7, none⟩) hBs] at y7
      rw [← hb2.frozen (p := ⟨w.heap.size, 7, none⟩) hBs] at g7
      have r1 : Below w.heap.size w w2 := hBw.trans (hb2.mono (by omega))
      have r2 : w.heap.size < w2.heap.size := by have := hb2.size; omega
      clear hb2 hBw hBs q
      go_wp2
      refine ⟨Or.inr (Or.inr (Or.inr (Or.inr (Or.inr (Or.inr (Or.inl ⟨rfl, ?_, ?_, ?_, ?_, ?_, ?_, ?_, ?_, ?_, ?_, ?_, ?_, ?_, ?_, ?_, ?_, r1.setCell (by simp) _, by simpa using r2⟩)))))), by simp [intOf]⟩
      all_goals go_simp
    · have q : wr.cell? ⟨p, o + 6, none⟩ = some (.int .i64 z6) := (hBw.cell hp).trans c6
      go_wp2_with fail
      refine (f6.out _ hBw).mono ?_
      rintro e w2 ⟨rfl, hb2⟩
      rw [← hb2.cell (p := ⟨w.heap.size, 0, none⟩) hBs] at y0
      rw [← hb2.frozen (p := ⟨w.heap.size, 0, none⟩) hBs] at g0
      rw [← hb2.cell (p := ⟨w.heap.size, 1, none⟩) hBs] at y1
      rw [← hb2.frozen (p := ⟨w.heap.size, 1, none⟩) hBs] at g1
      rw [← hb2.cell (p := ⟨w.heap.size, 2, none⟩) hBs] at y2
      rw [← hb2.frozen (p := ⟨w.heap.size, 2, none⟩) hBs] at g2
      rw [← hb2.cell (p := ⟨w.heap.size, 3, none⟩) hBs] at y3
      rw [← hb2.frozen (p := ⟨w.heap.size, 3, none⟩) hBs] at g3
      rw [← hb2.cell (p := ⟨w.heap.size, 4, none⟩) hBs] at y4
      rw [← hb2.frozen (p := ⟨w.heap.size, 4, none⟩) hBs] at g4
      rw [← hb2.cell (p := ⟨w.heap.size, 5, none⟩) hBs] at y5
      rw [← hb2.frozen (p := ⟨w.heap.size, 5, none⟩) hBs] at g5
      rw [← hb2.cell (p := ⟨w.heap.size, 6, none⟩) hBs] at y6
      rw [← hb2.frozen (p := ⟨w.heap.size, 6, none⟩) hBs] at g6
      rw [← hb2.cell (p := ⟨w.heap.size, 7, none⟩) hBs] at y7
      rw [← hb2.frozen (p := ⟨w.heap.size, 7, none⟩) hBs] at g7
      have r1 : Below w.heap.size w w2 := hBw.trans (hb2.mono (by omega))
      have r2 : w.heap.size < w2.heap.size := by have := hb2.size; omega
      clear hb2 hBw hBs q
      go_wp2
      refine ⟨Or.inr (Or.inr (Or.inr (Or.inr (Or.inr (Or.inr (Or.inr (Or.inl ⟨rfl, ?_, ?_, ?_, ?_, ?_, ?_, ?_, ?_, ?_, ?_, ?_, ?_, ?_, ?_, ?_, ?_, r1.setCell (by simp) _, by simpa using r2⟩))))))), by simp [intOf]⟩
      all_goals go_simp
    · have q : wr.cell? ⟨p, o + 7, none⟩ = some (.int .i64 z7) := (hBw.cell hp).trans c7
      go_wp2_with fail
      refine (f7.out _ hBw).mono ?_
      rintro e w2 ⟨rfl, hb2⟩
      rw [← hb2.cell (p := ⟨w.heap.size, 0, none⟩) hBs] at y0
      rw [← hb2.frozen (p := ⟨w.heap.size, 0, none⟩) hBs] at g0
      rw [← hb2.cell (p := ⟨w.heap.size, 1, none⟩) hBs] at y1
      rw [← hb2.frozen (p := ⟨w.heap.size, 1, none⟩) hBs] at g1
      rw [← hb2.cell (p := ⟨w.heap.size, 2, none⟩) hBs] at y2
      rw [← hb2.frozen (p := ⟨w.heap.size, 2, none⟩) hBs] at g2
      rw [← hb2.cell (p := ⟨w.heap.size, 3, none⟩) hBs] at y3
      rw [← hb2.frozen (p := ⟨w.heap.size, 3, none⟩) hBs] at g3
      rw [← hb2.cell (p := ⟨w.heap.size, 4, none⟩) hBs] at y4
      rw [← hb2.frozen (p := ⟨w.heap.size, 4, none⟩) hBs] at g4
      rw [← hb2.cell (p := ⟨w.heap.size, 5, none⟩) hBs] at y5
      rw [← hb2.frozen (p := ⟨w.heap.size, 5, none⟩) hBs] at g5
      rw [← hb2.cell (p := ⟨w.heap.size, 6, none⟩) hBs] at y6
      rw [← hb2.frozen (p := ⟨w.heap.size, 6, none⟩) hBs] at g6
      rw [← hb2.cell (p := ⟨w.heap.size, 7, none⟩) hBs] at y7
      rw [← hb2.frozen (p := ⟨w.heap.size, 7, none⟩) hBs] at g7
      have r1 : Below w.heap.size w w2 := hBw.trans (hb2.mono (by omega))
      have r2 : w.heap.size < w2.heap.size := by have := hb2.size; omega
      clear hb2 hBw hBs q
      go_wp2
      refine ⟨Or.inr (Or.inr (Or.inr (Or.inr (Or.inr (Or.inr (Or.inr (Or.inr (⟨rfl, ?_, ?_, ?_, ?_, ?_, ?_, ?_, ?_, ?_, ?_, ?_, ?_, ?_, ?_, ?_, ?_, r1.setCell (by simp) _, by simpa using r2⟩)))))))), by simp [intOf]⟩
      all_goals go_simp
    · skip
      have hcs : ∀ (j : Nat) x, ([⟨s0.toArray⟩, ⟨s1.toArray⟩, ⟨s2.toArray⟩, ⟨s3.toArray⟩, ⟨s4.toArray⟩, ⟨s5.toArray⟩, ⟨s6.toArray⟩, ⟨s7.toArray⟩] : List ByteArray)[j]? = some x → wr.cell? ⟨w.heap.size, 0 + j, none⟩ = some (.string x) := by
        intro j x hx
        have hj : j < 8 := by have := (List.getElem?_eq_some_iff.1 hx).1; simpa using this
        have hd : j = 0 ∨ j = 1 ∨ j = 2 ∨ j = 3 ∨ j = 4 ∨ j = 5 ∨ j = 6 ∨ j = 7 := by omega
        rcases hd with rfl | rfl | rfl | rfl | rfl | rfl | rfl | rfl <;> (simp at hx; subst hx; simpa)
      have HC := Any.hidJ hcs
      clear hcs y0 g0 y1 g1 y2 g2 y3 g3 y4 g4 y5 g5 y6 g6 y7 g7
      go_wp2_with fail
      refine (Tryz.strings_Join w.heap.size 0 8 [⟨s0.toArray⟩, ⟨s1.toArray⟩, ⟨s2.toArray⟩, ⟨s3.toArray⟩, ⟨s4.toArray⟩, ⟨s5.toArray⟩, ⟨s6.toArray⟩, ⟨s7.toArray⟩] ⟨[sep].toArray⟩ _ HC.out hBs (by simp) (by simp) (by simp [Lib.join, List.intercalate]; omega)).mono ?_
      rintro e w3 ⟨rfl, hb3⟩
      go_wp2
      go_ret
      exact ⟨ret_ba (by simp), hBw.trans (hb3.mono (by omega))⟩

end Go.Proofs.YtnchndcanhmbeaaGreatDoor
