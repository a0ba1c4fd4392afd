/-
  The sum's four bytes, the lowest first: the specification's l3Little, and the program's sumBytes (through the library's Reverse of four bytes); the row that is handed back is new, nothing old turns.
-/
import Derived.Test.YtdcbmeiopfdkeaaCWord
import Derived.Test.YtdcbmeiopfdkeaaCSum
import Derived.Deep.RegionHeld3
namespace Go.Proofs.Ytdcbmeiopfdkeaa
open Go.RowKit

/-- Four bytes of a number, the lowest first. -/
def lit (n : Int) : List Int := [n % 256, n / 256 % 256, n / 65536 % 256, n / 16777216 % 256]
theorem big4 (n : Int) : big n 4 = [n / 16777216 % 256, n / 65536 % 256, n / 256 % 256, n % 256] := by
  simp [big, byteAt, List.range_succ]

theorem lit_oct (n : Int) : Oct (lit n) := by
  intro z hz
  simp only [lit, List.mem_cons, List.not_mem_nil, or_false] at hz
  omega

theorem own4 {w : World} {B g cap : Nat} {a b c d : Int} (h : Own w B (.slice (some ⟨g, 0, none⟩) 4 cap) [a, b, c, d]) :
    w.cell? ⟨g, 0, none⟩ = some (.int .u8 a) ∧ w.cell? ⟨g, 1, none⟩ = some (.int .u8 b) ∧ w.cell? ⟨g, 2, none⟩ = some (.int .u8 c) ∧ w.cell? ⟨g, 3, none⟩ = some (.int .u8 d) ∧ (∀ j, w.frozen? ⟨g, j, none⟩ = false) := by
  have hc : ∀ j, j < 4 → w.cell? ⟨g, j, none⟩ = ([a, b, c, d].map (Value.int .u8))[j]? := fun j hj => World.ownsRow.cellAt h j (by omega)
  exact ⟨hc 0 (by omega), hc 1 (by omega), hc 2 (by omega), hc 3 (by omega), fun j => World.ownsRow.frozenAt h j⟩
theorem own4_set {w : World} {B g cap : Nat} {zs : List Int} (j : Nat) (z : Int) (hl : zs.length = 4) (h : Own w B (.slice (some ⟨g, 0, none⟩) 4 cap) zs) : Own (w.setCell ⟨g, j, none⟩ (.int .u8 z)) B (.slice (some ⟨g, 0, none⟩) 4 cap) (zs.set j z) := by
  have h' : w.ownsRow B 5 1 (.slice (some ⟨g, 0, none⟩) 4 cap) 4 (zs.map (Value.int .u8)) := by unfold Own at h; rw [hl] at h; exact h
  have := (World.ownsRow.stored h' j (.int .u8 z)).1
  unfold Own
  rw [List.length_set, hl, List.map_set]
  exact this

theorem gr_set {w w' : World} {g : Nat} (h : w.grownBy w' (some g)) (j : Nat) (v : Value) : w.grownBy (w'.setCell ⟨g, j, none⟩ v) (some g) :=
  h.trans ⟨rfl, rfl, rfl, by simp, fun k _ hk => Below.heap_setCell w' ⟨g, j, none⟩ v k (fun e => hk (by rw [e]))⟩
theorem gr_drew {w w' : World} {r : Option Nat} (h : w.grownBy w' r) : w.grownBy w'.drew r := h.trans ⟨rfl, rfl, rfl, Nat.le_refl _, fun _ _ _ => rfl⟩

set_option maxHeartbeats 4000000 in
theorem reverse4 (B g cap : Nat) (a b c d : Int) (w : World) (h : Own w B (.slice (some ⟨g, 0, none⟩) 4 cap) [a, b, c, d]) :
    Calls Try.prog 59 #[.slice (some ⟨g, 0, none⟩) 4 cap] w fun e w' => e = .returned (.tuple #[]) ∧ Own w' B (.slice (some ⟨g, 0, none⟩) 4 cap) [d, c, b, a] ∧ w.grownBy w' (some g) := by
  obtain ⟨c0, c1, c2, c3, f⟩ := own4 h
  have f0 := f 0; have f1 := f 1; have f2 := f 2; have f3 := f 3
  clear f
  have HO : Hid (Own w B _ _) := h
  clear h
  go_enter Try.func59, Try.ntmps59
  go_wp2
  go_loopw [2, 3] (fun t2 t3 wr => (t2 = .int .i64 0 ∧ t3 = .int .i64 3 ∧ Own wr B (.slice (some ⟨g, 0, none⟩) 4 cap) [a, b, c, d] ∧ w.grownBy wr (some g)) ∨ (t2 = .int .i64 1 ∧ t3 = .int .i64 2 ∧ Own wr B (.slice (some ⟨g, 0, none⟩) 4 cap) [d, b, c, a] ∧ w.grownBy wr (some g)) ∨ (t2 = .int .i64 2 ∧ t3 = .int .i64 1 ∧ Own wr B (.slice (some ⟨g, 0, none⟩) 4 cap) [d, c, b, a] ∧ w.grownBy wr (some g))) (fun t2 _ _ => (2 - intOf t2).toNat)
  case atStart => exact Or.inl ⟨rfl, rfl, HO.out, World.grownBy.refl _ _⟩
  case round =>
    clear c0 c1 c2 c3 f0 f1 f2 f3 HO
    rcases hrel with ⟨rfl, rfl, ho, hg⟩ | ⟨rfl, rfl, ho, hg⟩ | ⟨rfl, rfl, ho, hg⟩
    · obtain ⟨c0, c1, c2, c3, f⟩ := own4 ho
      have f0 := f 0; have f3 := f 3
      have HO : Hid (Own wr B _ _) := ho
      have HG : Hid (w.grownBy wr _) := hg
      clear ho hg f c1 c2
      go_wp2_with fail
      go_region
      all_goals
        go_wp2
        go_roundw
        case rel =>
          refine Or.inr (Or.inl ⟨rfl, rfl, ?_, ?_⟩)
          · exact World.ownsRow.drew (own4_set 3 a rfl (own4_set 0 d rfl HO.out))
          · exact gr_drew (gr_set (gr_set HG.out _ _) _ _)
        case measure => simp [intOf]
    · obtain ⟨c0, c1, c2, c3, f⟩ := own4 ho
      have f1 := f 1; have f2 := f 2
      have HO : Hid (Own wr B _ _) := ho
      have HG : Hid (w.grownBy wr _) := hg
      clear ho hg f c0 c3
      go_wp2_with fail
      go_region
      all_goals
        go_wp2
        go_roundw
        case rel =>
          refine Or.inr (Or.inr ⟨rfl, rfl, ?_, ?_⟩)
          · exact World.ownsRow.drew (own4_set 2 b rfl (own4_set 1 c rfl HO.out))
          · exact gr_drew (gr_set (gr_set HG.out _ _) _ _)
        case measure => simp [intOf]
    · have HO : Hid (Own wr B _ _) := ho
      have HG : Hid (w.grownBy wr _) := hg
      clear ho hg
      go_wp2
      first | go_end0 | refine bodyPost_ret (results_none rfl _ _ _) rfl ?_
      exact ⟨rfl, HO.out, HG.out⟩

set_option maxHeartbeats 2000000 in
theorem sumBytes_any (a : Option Addr) (cap : Nat) (zs : List Int) (w : World) (hB : Byt w a zs) (ho : Oct zs) (hl : zs.length ≤ 9000000000) :
    Calls Try.prog 42 #[.slice a zs.length cap] w fun e w' => e = .returned (.slice (some ⟨w.heap.size, 0, none⟩) 4 4) ∧ Own w' w.heap.size (.slice (some ⟨w.heap.size, 0, none⟩) 4 4) (lit (crc zs)) ∧ Below w.heap.size w w' := by
  have HB : Hid (Byt w a zs) := hB
  have HO : Hid (Oct zs) := ho
  clear hB ho
  go_enter Try.func42, Try.ntmps42
  go_wp2_with fail
  refine (iSum_any a cap zs w HB.out HO.out hl).mono ?_
  rintro e w1 ⟨rfl, rfl⟩
  go_wp2_with fail
  refine (wordBytes_any (crc zs) 4 (by omega) w).mono ?_
  rw [big4]
  rintro e w1 ⟨rfl, ho, hb⟩
  have HO1 : Hid (Own w1 w.heap.size _ _) := ho
  have HB1 : Hid (Below w.heap.size w w1) := hb
  clear ho hb
  go_wp2_with fail
  refine (reverse4 w.heap.size w.heap.size 4 _ _ _ _ w1 HO1.out).mono ?_
  rintro e w2 ⟨rfl, ho, hg⟩
  have HO2 : Hid (Own w2 w.heap.size _ (lit (crc zs))) := ho
  have HB2 : Hid (Below w.heap.size w w2) := HB1.out.grown hg HB1.out.size (fun k hk => by cases hk; exact Nat.le_refl _)
  clear ho hg
  go_wp2_with fail
  go_ret
  exact ⟨rfl, HO2.out, HB2.out⟩

end Go.Proofs.Ytdcbmeiopfdkeaa
