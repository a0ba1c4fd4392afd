/-
  Small facts on a text's bytes and the range over it.
-/
import Derived.Test.YtadhapggcifldaaGreatDoorDRead
namespace Go.Proofs.YtadhapggcifldaaGreatDoor
open Go.RowKit

theorem at_pos (s : ByteArray) (pos : Nat) (h : pos < s.size) : ∃ c : UInt8, (s[pos]'h) = c ∧ s.data.toList.drop pos = c :: s.data.toList.drop (pos + 1) :=
  ⟨_, rfl, by rw [List.drop_eq_getElem_cons (by simpa using h)]; rfl⟩
theorem nxt_asciiV (V : World) (b : Nat) (hb : b = V.heap.size) (s : ByteArray) (pos : Nat) (c : UInt8) (h : pos < s.size) (hc : (s[pos]'h) = c) (ha : c.toNat < 128) (ty : TypeId) :
    (Instr.next (.pointer (some ⟨b, 0, none⟩)) true ty).run Tryz.prog (V.alloc (.stringIter s pos)) = .ok (.tuple #[.bool true, .int .i64 pos, .int .i32 c.toNat]) (V.alloc (.stringIter s (pos + 1))) := by
  subst hb hc; exact run_next_ascii V s pos ty h ha
theorem nxt_highV (V : World) (b : Nat) (hb : b = V.heap.size) (s : ByteArray) (pos : Nat) (c : UInt8) (h : pos < s.size) (hc : (s[pos]'h) = c) (ha : ¬ c.toNat < 128) :
    ∃ (r : Int) (q : Nat), 128 ≤ r ∧ r ≤ 2147483647 ∧ ∀ ty : TypeId, (Instr.next (.pointer (some ⟨b, 0, none⟩)) true ty).run Tryz.prog (V.alloc (.stringIter s pos)) = .ok (.tuple #[.bool true, .int .i64 pos, .int .i32 r]) (V.alloc (.stringIter s q)) := by
  subst hb hc
  refine ⟨((Utf8.decode s pos).1 : Int), pos + (Utf8.decode s pos).2, ?_, ?_, fun ty => run_next_any V s pos ty h⟩
  · have := (decode_high s pos h (by omega)).1; omega
  · have := decode_le s pos; omega
theorem nxt_endV (V : World) (b : Nat) (hb : b = V.heap.size) (s : ByteArray) (pos : Nat) (h : ¬ pos < s.size) (ty : TypeId) :
    (Instr.next (.pointer (some ⟨b, 0, none⟩)) true ty).run Tryz.prog (V.alloc (.stringIter s pos)) = .ok (.tuple #[.bool false]) (V.alloc (.stringIter s pos)) := by
  subst hb; exact run_next_end V s pos ty h

theorem hid' {p : Prop} (h : p) : Hid p := h
theorem rn_bad {sep base most : Int} {c : UInt8} {r : List UInt8} {done : List Int} {cur : Int} (h1 : ¬ (c.toNat : Int) = sep) (h2 : dgk c.toNat base = false) : rn sep base most (c :: r) done cur = none := by
  rw [rn, if_neg h1, if_neg (by rw [h2]; simp)]
theorem rn_dig {sep base most : Int} {c : UInt8} {r : List UInt8} {done : List Int} {cur : Int} (h1 : ¬ (c.toNat : Int) = sep) (h2 : dgk c.toNat base = true) :
    rn sep base most (c :: r) done cur = if most < (if cur < 0 then 0 else cur) * base + dgv c.toNat then none else rn sep base most r done ((if cur < 0 then 0 else cur) * base + dgv c.toNat) := by
  rw [rn, if_neg h1, if_pos h2]
theorem rn_sep {sep base most : Int} {c : UInt8} {r : List UInt8} {done : List Int} {cur : Int} (h1 : (c.toNat : Int) = sep) :
    rn sep base most (c :: r) done cur = if done.length = 7 then none else rn sep base most r (done ++ [cur]) (-1) := by
  rw [rn, if_pos h1]
theorem high_bad (r base : Int) (h : 128 ≤ r) : dgk r base = false := by
  unfold dgk dgv; rw [if_neg (by omega), if_neg (by omega)]; simp
/-- The range has gone on by one place. -/
theorem meas (V V' : World) (s : ByteArray) (pos b : Nat) (hb : V.heap.size = b ∧ V'.heap.size = b) (h : pos < s.size) : s.size - (V'.alloc (.stringIter s (pos + 1))).iterPos b < s.size - (V.alloc (.stringIter s pos)).iterPos b := by
  have e1 : (V.alloc (.stringIter s pos)).iterPos b = pos := by rw [← hb.1]; exact World.iterPos_iter V s pos
  have e2 : (V'.alloc (.stringIter s (pos + 1))).iterPos b = pos + 1 := by rw [← hb.2]; exact World.iterPos_iter V' s (pos + 1)
  omega

end Go.Proofs.YtadhapggcifldaaGreatDoor
