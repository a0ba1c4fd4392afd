/-
  What getCommand_card needs, part 4.
-/
import Derived.Test.YtnchndcanhmbeaaGreatDoorZT1
import Derived.Test.YtnchndcanhmbeaaGreatDoorGCmd
import Derived.Test.YtnchndcanhmbeaaGreatDoorGRow2
import Derived.Test.YtnchndcanhmbeaaGreatDoorXEqC
import Derived.Test.YtnchndcanhmbeaaGreatDoorGFa
import Derived.Test.YtnchndcanhmbeaaGreatDoorGCmI
namespace Go.Proofs.YtnchndcanhmbeaaGreatDoor
open Go.RowKit

set_option maxRecDepth 10000 in
set_option maxHeartbeats 2000000 in
theorem reqOut (p : Nat) (k : Int) (s q n : Int) (aS : Bool) (aH aL ab b : Int) (hS : Bool) (hH hL : Int) (o : ByteArray) (t sp : Int) (x : World) (h : Bx x p [.int .i64 k, .int .i64 s, .int .i64 q, .int .i64 n, .bool aS, .int .i64 aH, .int .i64 aL, .int .i64 ab, .int .i64 b, .bool hS, .int .i64 hH, .int .i64 hL, .string o, .int .i64 t, .int .i64 sp]) :
    Calls Tryz.prog 69 #[.pointer (some ⟨p, 0, none⟩)] x fun e w' => e = .returned (.agg #[.int .i64 s, .int .i64 q, .int .i64 n]) ∧ Bx w' p [.int .i64 k, .int .i64 0, .int .i64 0, .int .i64 0, .bool aS, .int .i64 aH, .int .i64 aL, .int .i64 ab, .int .i64 b, .bool hS, .int .i64 hH, .int .i64 hL, .string o, .int .i64 t, .int .i64 sp] ∧ Kp p x w' := by
  have hLt := h.lt
  have HX := hidP h
  clear h
  go_enter Tryz.func69, Tryz.ntmps69
  go_wp2_with fail
  go_region_with (first | (go_at_call_of 68 (Value.pointer (some (⟨p, 1, none⟩ : Addr))); refine (takeI p 1 [.int .i64 k, .int .i64 s, .int .i64 q, .int .i64 n, .bool aS, .int .i64 aH, .int .i64 aL, .int .i64 ab, .int .i64 b, .bool hS, .int .i64 hH, .int .i64 hL, .string o, .int .i64 t, .int .i64 sp] (s) _ (by repeat (first | with_reducible exact HX.out | (with_reducible refine Bx.drew ?_) | (with_reducible refine Bx.alloc ?_ _))) rfl).mono ?_; rintro e w1 ⟨rfl, hx1, hk1⟩; have HX1 : Hid (Bx w1 p [.int .i64 k, .int .i64 0, .int .i64 q, .int .i64 n, .bool aS, .int .i64 aH, .int .i64 aL, .int .i64 ab, .int .i64 b, .bool hS, .int .i64 hH, .int .i64 hL, .string o, .int .i64 t, .int .i64 sp]) := hidP hx1; have HK1 := hidP hk1; have r10 : w1.cell? ⟨x.heap.size, 0, none⟩ = some (.int .i64 0) := (hk1.cel x.heap.size 0 (by simp) (by omega)).trans (by simp [go_sem]); have r11 : w1.cell? ⟨x.heap.size, 1, none⟩ = some (.int .i64 0) := (hk1.cel x.heap.size 1 (by simp) (by omega)).trans (by simp [go_sem]); have r12 : w1.cell? ⟨x.heap.size, 2, none⟩ = some (.int .i64 0) := (hk1.cel x.heap.size 2 (by simp) (by omega)).trans (by simp [go_sem]); have r1f : ∀ o, w1.frozen? ⟨x.heap.size, o, none⟩ = false := (fun o => (hk1.frz x.heap.size o (by simp) (by omega)).trans (by simp [go_sem])); have hl1 : x.heap.size < w1.heap.size := (by have := hk1.big; (try simp at this); omega); clear hx1 hk1) | (go_at_call_of 68 (Value.pointer (some (⟨p, 2, none⟩ : Addr))); refine (takeI p 2 [.int .i64 k, .int .i64 0, .int .i64 q, .int .i64 n, .bool aS, .int .i64 aH, .int .i64 aL, .int .i64 ab, .int .i64 b, .bool hS, .int .i64 hH, .int .i64 hL, .string o, .int .i64 t, .int .i64 sp] (q) _ (by repeat (first | with_reducible exact HX.out | with_reducible exact HX1.out | (with_reducible refine Bx.drew ?_) | (with_reducible refine Bx.alloc ?_ _))) rfl).mono ?_; rintro e w2 ⟨rfl, hx2, hk2⟩; have HX2 : Hid (Bx w2 p [.int .i64 k, .int .i64 0, .int .i64 0, .int .i64 n, .bool aS, .int .i64 aH, .int .i64 aL, .int .i64 ab, .int .i64 b, .bool hS, .int .i64 hH, .int .i64 hL, .string o, .int .i64 t, .int .i64 sp]) := hidP hx2; have HK2 := hidP hk2; have r20 : w2.cell? ⟨x.heap.size, 0, none⟩ = some (.int .i64 0) := (hk2.cel x.heap.size 0 (by omega) (by omega)).trans (by exact r10); have r21 : w2.cell? ⟨x.heap.size, 1, none⟩ = some (.int .i64 0) := (hk2.cel x.heap.size 1 (by omega) (by omega)).trans (by exact r11); have r22 : w2.cell? ⟨x.heap.size, 2, none⟩ = some (.int .i64 0) := (hk2.cel x.heap.size 2 (by omega) (by omega)).trans (by exact r12); have r2f : ∀ o, w2.frozen? ⟨x.heap.size, o, none⟩ = false := (fun o => (hk2.frz x.heap.size o (by omega) (by omega)).trans (by exact r1f o)); have hl2 : x.heap.size < w2.heap.size := (by have := hk2.big; (try simp at this); omega); clear hx2 hk2) | (go_at_call_of 68 (Value.pointer (some (⟨p, 3, none⟩ : Addr))); refine (takeI p 3 [.int .i64 k, .int .i64 0, .int .i64 0, .int .i64 n, .bool aS, .int .i64 aH, .int .i64 aL, .int .i64 ab, .int .i64 b, .bool hS, .int .i64 hH, .int .i64 hL, .string o, .int .i64 t, .int .i64 sp] (n) _ (by repeat (first | with_reducible exact HX.out | with_reducible exact HX1.out | with_reducible exact HX2.out | (with_reducible refine Bx.drew ?_) | (with_reducible refine Bx.alloc ?_ _))) rfl).mono ?_; rintro e w3 ⟨rfl, hx3, hk3⟩; have HX3 : Hid (Bx w3 p [.int .i64 k, .int .i64 0, .int .i64 0, .int .i64 0, .bool aS, .int .i64 aH, .int .i64 aL, .int .i64 ab, .int .i64 b, .bool hS, .int .i64 hH, .int .i64 hL, .string o, .int .i64 t, .int .i64 sp]) := hidP hx3; have HK3 := hidP hk3; have r30 : w3.cell? ⟨x.heap.size, 0, none⟩ = some (.int .i64 0) := (hk3.cel x.heap.size 0 (by omega) (by omega)).trans (by exact r20); have r31 : w3.cell? ⟨x.heap.size, 1, none⟩ = some (.int .i64 0) := (hk3.cel x.heap.size 1 (by omega) (by omega)).trans (by exact r21); have r32 : w3.cell? ⟨x.heap.size, 2, none⟩ = some (.int .i64 0) := (hk3.cel x.heap.size 2 (by omega) (by omega)).trans (by exact r22); have r3f : ∀ o, w3.frozen? ⟨x.heap.size, o, none⟩ = false := (fun o => (hk3.frz x.heap.size o (by omega) (by omega)).trans (by exact r2f o)); have hl3 : x.heap.size < w3.heap.size := (by have := hk3.big; (try simp at this); omega); clear hx3 hk3))
  all_goals
    go_wp2_with fail
    refine bodyPost_ret (v := .agg #[.int .i64 s, .int .i64 q, .int .i64 n]) (by simp [results, Tryz.results69, go_sem, r30, r31, r32]) rfl ⟨rfl, ?_, ?_⟩
    · repeat (first | with_reducible exact HX3.out | (with_reducible refine Bx.far ?_ (by omega) _) | (with_reducible refine Bx.drew ?_))
    · repeat (first | with_reducible exact Kp.refl _ _ | (with_reducible refine Kp.trans ?_ HK3.out) | (with_reducible refine Kp.trans ?_ HK2.out) | (with_reducible refine Kp.trans ?_ HK1.out) | (with_reducible refine Kp.more ?_ (by omega) _) | (with_reducible refine Kp.trans ?_ (Kp.drew _ _)) | (with_reducible refine Kp.setNew ?_ (by omega) (by first | omega | (simp; done) | (simp; omega)) _))

end Go.Proofs.YtnchndcanhmbeaaGreatDoor
namespace Go.Proofs.YtnchndcanhmbeaaGreatDoor
open Go.RowKit

set_option maxRecDepth 10000 in
set_option maxHeartbeats 4000000 in
theorem oo_1 (p : Nat) (s q n : Int) (aS : Bool) (aH aL ab b : Int) (hS : Bool) (hH hL : Int) (o : ByteArray) (t sp : Int) (x : World) (h : Bx x p [.int .i64 1, .int .i64 s, .int .i64 q, .int .i64 n, .bool aS, .int .i64 aH, .int .i64 aL, .int .i64 ab, .int .i64 b, .bool hS, .int .i64 hH, .int .i64 hL, .string o, .int .i64 t, .int .i64 sp]) :
    Calls Tryz.prog 60 #[.pointer (some ⟨p, 0, none⟩)] x fun e w' => e = .returned (.iface 114 (.agg #[.int .i64 n])) ∧ Bx w' p [.int .i64 0, .int .i64 s, .int .i64 q, .int .i64 0, .bool aS, .int .i64 aH, .int .i64 aL, .int .i64 ab, .int .i64 b, .bool hS, .int .i64 hH, .int .i64 hL, .string o, .int .i64 t, .int .i64 sp] ∧ Kp p x w' := by
  have hLt := h.lt
  have HX := hidP h
  clear h
  go_enter Tryz.func60, Tryz.ntmps60
  go_wp2_with (first | (go_at_call_of 68 (Value.pointer (some (⟨p, 0, none⟩ : Addr))); refine (takeI p 0 [.int .i64 1, .int .i64 s, .int .i64 q, .int .i64 n, .bool aS, .int .i64 aH, .int .i64 aL, .int .i64 ab, .int .i64 b, .bool hS, .int .i64 hH, .int .i64 hL, .string o, .int .i64 t, .int .i64 sp] (1) _ (by repeat (first | with_reducible exact HX.out | (with_reducible refine Bx.drew ?_) | (with_reducible refine Bx.alloc ?_ _))) rfl).mono ?_; rintro e w1 ⟨rfl, hx1, hk1⟩; have HX1 : Hid (Bx w1 p [.int .i64 0, .int .i64 s, .int .i64 q, .int .i64 n, .bool aS, .int .i64 aH, .int .i64 aL, .int .i64 ab, .int .i64 b, .bool hS, .int .i64 hH, .int .i64 hL, .string o, .int .i64 t, .int .i64 sp]) := hidP hx1; have HK1 := hidP hk1;  clear hx1 hk1) | (go_at_call_of 68 (Value.pointer (some (⟨p, 3, none⟩ : Addr))); refine (takeI p 3 [.int .i64 0, .int .i64 s, .int .i64 q, .int .i64 n, .bool aS, .int .i64 aH, .int .i64 aL, .int .i64 ab, .int .i64 b, .bool hS, .int .i64 hH, .int .i64 hL, .string o, .int .i64 t, .int .i64 sp] (n) _ (by repeat (first | with_reducible exact HX.out | with_reducible exact HX1.out | (with_reducible refine Bx.drew ?_) | (with_reducible refine Bx.alloc ?_ _))) rfl).mono ?_; rintro e w2 ⟨rfl, hx2, hk2⟩; have HX2 : Hid (Bx w2 p [.int .i64 0, .int .i64 s, .int .i64 q, .int .i64 0, .bool aS, .int .i64 aH, .int .i64 aL, .int .i64 ab, .int .i64 b, .bool hS, .int .i64 hH, .int .i64 hL, .string o, .int .i64 t, .int .i64 sp]) := hidP hx2; have HK2 := hidP hk2;  clear hx2 hk2))
  all_goals
    go_wp2_with fail
    go_ret
    refine ⟨rfl, HX2.out, ?_⟩
    repeat (first | with_reducible exact Kp.refl _ _ | (with_reducible refine Kp.trans ?_ HK2.out) | (with_reducible refine Kp.trans ?_ HK1.out) | (with_reducible refine Kp.more ?_ (by omega) _) | (with_reducible refine Kp.trans ?_ (Kp.drew _ _)) | (with_reducible refine Kp.setNew ?_ (by omega) (by first | omega | (simp; done) | (simp; omega)) _))

set_option maxRecDepth 10000 in
set_option maxHeartbeats 4000000 in
theorem oo_2 (p : Nat) (s q n : Int) (aS : Bool) (aH aL ab b : Int) (hS : Bool) (hH hL : Int) (o : ByteArray) (t sp : Int) (x : World) (h : Bx x p [.int .i64 2, .int .i64 s, .int .i64 q, .int .i64 n, .bool aS, .int .i64 aH, .int .i64 aL, .int .i64 ab, .int .i64 b, .bool hS, .int .i64 hH, .int .i64 hL, .string o, .int .i64 t, .int .i64 sp]) :
    Calls Tryz.prog 60 #[.pointer (some ⟨p, 0, none⟩)] x fun e w' => e = .returned (.iface 116 (.agg #[.int .i64 s, .int .i64 n])) ∧ Bx w' p [.int .i64 0, .int .i64 0, .int .i64 q, .int .i64 0, .bool aS, .int .i64 aH, .int .i64 aL, .int .i64 ab, .int .i64 b, .bool hS, .int .i64 hH, .int .i64 hL, .string o, .int .i64 t, .int .i64 sp] ∧ Kp p x w' := by
  have hLt := h.lt
  have HX := hidP h
  clear h
  go_enter Tryz.func60, Tryz.ntmps60
  go_wp2_with (first | (go_at_call_of 68 (Value.pointer (some (⟨p, 0, none⟩ : Addr))); refine (takeI p 0 [.int .i64 2, .int .i64 s, .int .i64 q, .int .i64 n, .bool aS, .int .i64 aH, .int .i64 aL, .int .i64 ab, .int .i64 b, .bool hS, .int .i64 hH, .int .i64 hL, .string o, .int .i64 t, .int .i64 sp] (2) _ (by repeat (first | with_reducible exact HX.out | (with_reducible refine Bx.drew ?_) | (with_reducible refine Bx.alloc ?_ _))) rfl).mono ?_; rintro e w1 ⟨rfl, hx1, hk1⟩; have HX1 : Hid (Bx w1 p [.int .i64 0, .int .i64 s, .int .i64 q, .int .i64 n, .bool aS, .int .i64 aH, .int .i64 aL, .int .i64 ab, .int .i64 b, .bool hS, .int .i64 hH, .int .i64 hL, .string o, .int .i64 t, .int .i64 sp]) := hidP hx1; have HK1 := hidP hk1;  clear hx1 hk1))
  go_region_with (first | (go_at_call_of 68 (Value.pointer (some (⟨p, 1, none⟩ : Addr))); refine (takeI p 1 [.int .i64 0, .int .i64 s, .int .i64 q, .int .i64 n, .bool aS, .int .i64 aH, .int .i64 aL, .int .i64 ab, .int .i64 b, .bool hS, .int .i64 hH, .int .i64 hL, .string o, .int .i64 t, .int .i64 sp] (s) _ (by repeat (first | with_reducible exact HX.out | with_reducible exact HX1.out | (with_reducible refine Bx.drew ?_) | (with_reducible refine Bx.alloc ?_ _))) rfl).mono ?_; rintro e w2 ⟨rfl, hx2, hk2⟩; have HX2 : Hid (Bx w2 p [.int .i64 0, .int .i64 0, .int .i64 q, .int .i64 n, .bool aS, .int .i64 aH, .int .i64 aL, .int .i64 ab, .int .i64 b, .bool hS, .int .i64 hH, .int .i64 hL, .string o, .int .i64 t, .int .i64 sp]) := hidP hx2; have HK2 := hidP hk2;  clear hx2 hk2) | (go_at_call_of 68 (Value.pointer (some (⟨p, 3, none⟩ : Addr))); refine (takeI p 3 [.int .i64 0, .int .i64 0, .int .i64 q, .int .i64 n, .bool aS, .int .i64 aH, .int .i64 aL, .int .i64 ab, .int .i64 b, .bool hS, .int .i64 hH, .int .i64 hL, .string o, .int .i64 t, .int .i64 sp] (n) _ (by repeat (first | with_reducible exact HX.out | with_reducible exact HX1.out | with_reducible exact HX2.out | (with_reducible refine Bx.drew ?_) | (with_reducible refine Bx.alloc ?_ _))) rfl).mono ?_; rintro e w3 ⟨rfl, hx3, hk3⟩; have HX3 : Hid (Bx w3 p [.int .i64 0, .int .i64 0, .int .i64 q, .int .i64 0, .bool aS, .int .i64 aH, .int .i64 aL, .int .i64 ab, .int .i64 b, .bool hS, .int .i64 hH, .int .i64 hL, .string o, .int .i64 t, .int .i64 sp]) := hidP hx3; have HK3 := hidP hk3;  clear hx3 hk3))
  all_goals
    go_wp2_with fail
    go_ret
    refine ⟨rfl, HX3.out, ?_⟩
    repeat (first | with_reducible exact Kp.refl _ _ | (with_reducible refine Kp.trans ?_ HK3.out) | (with_reducible refine Kp.trans ?_ HK2.out) | (with_reducible refine Kp.trans ?_ HK1.out) | (with_reducible refine Kp.more ?_ (by omega) _) | (with_reducible refine Kp.trans ?_ (Kp.drew _ _)) | (with_reducible refine Kp.setNew ?_ (by omega) (by first | omega | (simp; done) | (simp; omega)) _))

set_option maxRecDepth 10000 in
set_option maxHeartbeats 4000000 in
theorem oo_3 (p : Nat) (s q n : Int) (aS : Bool) (aH aL ab b : Int) (hS : Bool) (hH hL : Int) (o : ByteArray) (t sp : Int) (x : World) (h : Bx x p [.int .i64 3, .int .i64 s, .int .i64 q, .int .i64 n, .bool aS, .int .i64 aH, .int .i64 aL, .int .i64 ab, .int .i64 b, .bool hS, .int .i64 hH, .int .i64 hL, .string o, .int .i64 t, .int .i64 sp]) :
    Calls Tryz.prog 60 #[.pointer (some ⟨p, 0, none⟩)] x fun e w' => e = .returned (.iface 123 (.agg #[.int .i64 s, .int .i64 q, .int .i64 n, .bool aS, .int .i64 aH, .int .i64 aL, .int .i64 ab, .int .i64 b])) ∧ Bx w' p [.int .i64 0, .int .i64 0, .int .i64 0, .int .i64 0, .bool false, .int .i64 0, .int .i64 0, .int .i64 0, .int .i64 0, .bool hS, .int .i64 hH, .int .i64 hL, .string o, .int .i64 t, .int .i64 sp] ∧ Kp p x w' := by
  have hLt := h.lt
  have HX := hidP h
  clear h
  go_enter Tryz.func60, Tryz.ntmps60
  go_wp2_with (first | (go_at_call_of 68 (Value.pointer (some (⟨p, 0, none⟩ : Addr))); refine (takeI p 0 [.int .i64 3, .int .i64 s, .int .i64 q, .int .i64 n, .bool aS, .int .i64 aH, .int .i64 aL, .int .i64 ab, .int .i64 b, .bool hS, .int .i64 hH, .int .i64 hL, .string o, .int .i64 t, .int .i64 sp] (3) _ (by repeat (first | with_reducible exact HX.out | (with_reducible refine Bx.drew ?_) | (with_reducible refine Bx.alloc ?_ _))) rfl).mono ?_; rintro e w1 ⟨rfl, hx1, hk1⟩; have HX1 : Hid (Bx w1 p [.int .i64 0, .int .i64 s, .int .i64 q, .int .i64 n, .bool aS, .int .i64 aH, .int .i64 aL, .int .i64 ab, .int .i64 b, .bool hS, .int .i64 hH, .int .i64 hL, .string o, .int .i64 t, .int .i64 sp]) := hidP hx1; have HK1 := hidP hk1;  clear hx1 hk1))
  go_region_with (first | (go_at_call_of 69 (Value.pointer (some (⟨p, 0, none⟩ : Addr))); refine (reqOut p 0 s q n aS aH aL ab b hS hH hL o t sp _ (by repeat (first | with_reducible exact HX.out | with_reducible exact HX1.out | (with_reducible refine Bx.drew ?_) | (with_reducible refine Bx.alloc ?_ _)))).mono ?_; rintro e w2 ⟨rfl, hx2, hk2⟩; have HX2 : Hid (Bx w2 p [.int .i64 0, .int .i64 0, .int .i64 0, .int .i64 0, .bool aS, .int .i64 aH, .int .i64 aL, .int .i64 ab, .int .i64 b, .bool hS, .int .i64 hH, .int .i64 hL, .string o, .int .i64 t, .int .i64 sp]) := hidP hx2; have HK2 := hidP hk2;  clear hx2 hk2) | (go_at_call_of 70 (Value.pointer (some (⟨p, 4, none⟩ : Addr))); refine (takeP p 4 [.int .i64 0, .int .i64 0, .int .i64 0, .int .i64 0, .bool aS, .int .i64 aH, .int .i64 aL, .int .i64 ab, .int .i64 b, .bool hS, .int .i64 hH, .int .i64 hL, .string o, .int .i64 t, .int .i64 sp] aS aH aL ab _ (by repeat (first | with_reducible exact HX.out | with_reducible exact HX1.out | with_reducible exact HX2.out | (with_reducible refine Bx.drew ?_) | (with_reducible refine Bx.alloc ?_ _))) rfl rfl rfl rfl).mono ?_; rintro e w3 ⟨rfl, hx3, hk3⟩; have HX3 : Hid (Bx w3 p [.int .i64 0, .int .i64 0, .int .i64 0, .int .i64 0, .bool false, .int .i64 0, .int .i64 0, .int .i64 0, .int .i64 b, .bool hS, .int .i64 hH, .int .i64 hL, .string o, .int .i64 t, .int .i64 sp]) := hidP hx3; have HK3 := hidP hk3;  clear hx3 hk3) | (go_at_call_of 68 (Value.pointer (some (⟨p, 8, none⟩ : Addr))); refine (takeI p 8 [.int .i64 0, .int .i64 0, .int .i64 0, .int .i64 0, .bool false, .int .i64 0, .int .i64 0, .int .i64 0, .int .i64 b, .bool hS, .int .i64 hH, .int .i64 hL, .string o, .int .i64 t, .int .i64 sp] (b) _ (by repeat (first | with_reducible exact HX.out | with_reducible exact HX1.out | with_reducible exact HX2.out | with_reducible exact HX3.out | (with_reducible refine Bx.drew ?_) | (with_reducible refine Bx.alloc ?_ _))) rfl).mono ?_; rintro e w4 ⟨rfl, hx4, hk4⟩; have HX4 : Hid (Bx w4 p [.int .i64 0, .int .i64 0, .int .i64 0, .int .i64 0, .bool false, .int .i64 0, .int .i64 0, .int .i64 0, .int .i64 0, .bool hS, .int .i64 hH, .int .i64 hL, .string o, .int .i64 t, .int .i64 sp]) := hidP hx4; have HK4 := hidP hk4;  clear hx4 hk4))
  all_goals
    go_wp2_with fail
    go_ret
    refine ⟨rfl, HX4.out, ?_⟩
    repeat (first | with_reducible exact Kp.refl _ _ | (with_reducible refine Kp.trans ?_ HK4.out) | (with_reducible refine Kp.trans ?_ HK3.out) | (with_reducible refine Kp.trans ?_ HK2.out) | (with_reducible refine Kp.trans ?_ HK1.out) | (with_reducible refine Kp.more ?_ (by omega) _) | (with_reducible refine Kp.trans ?_ (Kp.drew _ _)) | (with_reducible refine Kp.setNew ?_ (by omega) (by first | omega | (simp; done) | (simp; omega)) _))

set_option maxRecDepth 10000 in
set_option maxHeartbeats 4000000 in
theorem oo_4 (p : Nat) (s q n : Int) (aS : Bool) (aH aL ab b : Int) (hS : Bool) (hH hL : Int) (o : ByteArray) (t sp : Int) (x : World) (h : Bx x p [.int .i64 4, .int .i64 s, .int .i64 q, .int .i64 n, .bool aS, .int .i64 aH, .int .i64 aL, .int .i64 ab, .int .i64 b, .bool hS, .int .i64 hH, .int .i64 hL, .string o, .int .i64 t, .int .i64 sp]) :
    Calls Tryz.prog 60 #[.pointer (some ⟨p, 0, none⟩)] x fun e w' => e = .returned (.iface 125 (.agg #[.int .i64 s, .int .i64 q, .int .i64 n, .bool aS, .int .i64 aH, .int .i64 aL, .int .i64 ab])) ∧ Bx w' p [.int .i64 0, .int .i64 0, .int .i64 0, .int .i64 0, .bool false, .int .i64 0, .int .i64 0, .int .i64 0, .int .i64 b, .bool hS, .int .i64 hH, .int .i64 hL, .string o, .int .i64 t, .int .i64 sp] ∧ Kp p x w' := by
  have hLt := h.lt
  have HX := hidP h
  clear h
  go_enter Tryz.func60, Tryz.ntmps60
  go_wp2_with (first | (go_at_call_of 68 (Value.pointer (some (⟨p, 0, none⟩ : Addr))); refine (takeI p 0 [.int .i64 4, .int .i64 s, .int .i64 q, .int .i64 n, .bool aS, .int .i64 aH, .int .i64 aL, .int .i64 ab, .int .i64 b, .bool hS, .int .i64 hH, .int .i64 hL, .string o, .int .i64 t, .int .i64 sp] (4) _ (by repeat (first | with_reducible exact HX.out | (with_reducible refine Bx.drew ?_) | (with_reducible refine Bx.alloc ?_ _))) rfl).mono ?_; rintro e w1 ⟨rfl, hx1, hk1⟩; have HX1 : Hid (Bx w1 p [.int .i64 0, .int .i64 s, .int .i64 q, .int .i64 n, .bool aS, .int .i64 aH, .int .i64 aL, .int .i64 ab, .int .i64 b, .bool hS, .int .i64 hH, .int .i64 hL, .string o, .int .i64 t, .int .i64 sp]) := hidP hx1; have HK1 := hidP hk1;  clear hx1 hk1))
  go_region_with (first | (go_at_call_of 69 (Value.pointer (some (⟨p, 0, none⟩ : Addr))); refine (reqOut p 0 s q n aS aH aL ab b hS hH hL o t sp _ (by repeat (first | with_reducible exact HX.out | with_reducible exact HX1.out | (with_reducible refine Bx.drew ?_) | (with_reducible refine Bx.alloc ?_ _)))).mono ?_; rintro e w2 ⟨rfl, hx2, hk2⟩; have HX2 : Hid (Bx w2 p [.int .i64 0, .int .i64 0, .int .i64 0, .int .i64 0, .bool aS, .int .i64 aH, .int .i64 aL, .int .i64 ab, .int .i64 b, .bool hS, .int .i64 hH, .int .i64 hL, .string o, .int .i64 t, .int .i64 sp]) := hidP hx2; have HK2 := hidP hk2;  clear hx2 hk2) | (go_at_call_of 70 (Value.pointer (some (⟨p, 4, none⟩ : Addr))); refine (takeP p 4 [.int .i64 0, .int .i64 0, .int .i64 0, .int .i64 0, .bool aS, .int .i64 aH, .int .i64 aL, .int .i64 ab, .int .i64 b, .bool hS, .int .i64 hH, .int .i64 hL, .string o, .int .i64 t, .int .i64 sp] aS aH aL ab _ (by repeat (first | with_reducible exact HX.out | with_reducible exact HX1.out | with_reducible exact HX2.out | (with_reducible refine Bx.drew ?_) | (with_reducible refine Bx.alloc ?_ _))) rfl rfl rfl rfl).mono ?_; rintro e w3 ⟨rfl, hx3, hk3⟩; have HX3 : Hid (Bx w3 p [.int .i64 0, .int .i64 0, .int .i64 0, .int .i64 0, .bool false, .int .i64 0, .int .i64 0, .int .i64 0, .int .i64 b, .bool hS, .int .i64 hH, .int .i64 hL, .string o, .int .i64 t, .int .i64 sp]) := hidP hx3; have HK3 := hidP hk3;  clear hx3 hk3))
  all_goals
    go_wp2_with fail
    go_ret
    refine ⟨rfl, HX3.out, ?_⟩
    repeat (first | with_reducible exact Kp.refl _ _ | (with_reducible refine Kp.trans ?_ HK3.out) | (with_reducible refine Kp.trans ?_ HK2.out) | (with_reducible refine Kp.trans ?_ HK1.out) | (with_reducible refine Kp.more ?_ (by omega) _) | (with_reducible refine Kp.trans ?_ (Kp.drew _ _)) | (with_reducible refine Kp.setNew ?_ (by omega) (by first | omega | (simp; done) | (simp; omega)) _))

set_option maxRecDepth 10000 in
set_option maxHeartbeats 4000000 in
theorem oo_11 (p : Nat) (s q n : Int) (aS : Bool) (aH aL ab b : Int) (hS : Bool) (hH hL : Int) (o : ByteArray) (t sp : Int) (x : World) (h : Bx x p [.int .i64 11, .int .i64 s, .int .i64 q, .int .i64 n, .bool aS, .int .i64 aH, .int .i64 aL, .int .i64 ab, .int .i64 b, .bool hS, .int .i64 hH, .int .i64 hL, .string o, .int .i64 t, .int .i64 sp]) :
    Calls Tryz.prog 60 #[.pointer (some ⟨p, 0, none⟩)] x fun e w' => e = .returned (.iface 141 (.agg #[.int .i64 n])) ∧ Bx w' p [.int .i64 0, .int .i64 s, .int .i64 q, .int .i64 0, .bool aS, .int .i64 aH, .int .i64 aL, .int .i64 ab, .int .i64 b, .bool hS, .int .i64 hH, .int .i64 hL, .string o, .int .i64 t, .int .i64 sp] ∧ Kp p x w' := by
  have hLt := h.lt
  have HX := hidP h
  clear h
  go_enter Tryz.func60, Tryz.ntmps60
  go_wp2_with (first | (go_at_call_of 68 (Value.pointer (some (⟨p, 0, none⟩ : Addr))); refine (takeI p 0 [.int .i64 11, .int .i64 s, .int .i64 q, .int .i64 n, .bool aS, .int .i64 aH, .int .i64 aL, .int .i64 ab, .int .i64 b, .bool hS, .int .i64 hH, .int .i64 hL, .string o, .int .i64 t, .int .i64 sp] (11) _ (by repeat (first | with_reducible exact HX.out | (with_reducible refine Bx.drew ?_) | (with_reducible refine Bx.alloc ?_ _))) rfl).mono ?_; rintro e w1 ⟨rfl, hx1, hk1⟩; have HX1 : Hid (Bx w1 p [.int .i64 0, .int .i64 s, .int .i64 q, .int .i64 n, .bool aS, .int .i64 aH, .int .i64 aL, .int .i64 ab, .int .i64 b, .bool hS, .int .i64 hH, .int .i64 hL, .string o, .int .i64 t, .int .i64 sp]) := hidP hx1; have HK1 := hidP hk1;  clear hx1 hk1) | (go_at_call_of 68 (Value.pointer (some (⟨p, 3, none⟩ : Addr))); refine (takeI p 3 [.int .i64 0, .int .i64 s, .int .i64 q, .int .i64 n, .bool aS, .int .i64 aH, .int .i64 aL, .int .i64 ab, .int .i64 b, .bool hS, .int .i64 hH, .int .i64 hL, .string o, .int .i64 t, .int .i64 sp] (n) _ (by repeat (first | with_reducible exact HX.out | with_reducible exact HX1.out | (with_reducible refine Bx.drew ?_) | (with_reducible refine Bx.alloc ?_ _))) rfl).mono ?_; rintro e w2 ⟨rfl, hx2, hk2⟩; have HX2 : Hid (Bx w2 p [.int .i64 0, .int .i64 s, .int .i64 q, .int .i64 0, .bool aS, .int .i64 aH, .int .i64 aL, .int .i64 ab, .int .i64 b, .bool hS, .int .i64 hH, .int .i64 hL, .string o, .int .i64 t, .int .i64 sp]) := hidP hx2; have HK2 := hidP hk2;  clear hx2 hk2))
  all_goals
    go_wp2_with fail
    go_ret
    refine ⟨rfl, HX2.out, ?_⟩
    repeat (first | with_reducible exact Kp.refl _ _ | (with_reducible refine Kp.trans ?_ HK2.out) | (with_reducible refine Kp.trans ?_ HK1.out) | (with_reducible refine Kp.more ?_ (by omega) _) | (with_reducible refine Kp.trans ?_ (Kp.drew _ _)) | (with_reducible refine Kp.setNew ?_ (by omega) (by first | omega | (simp; done) | (simp; omega)) _))

set_option maxRecDepth 10000 in
set_option maxHeartbeats 4000000 in
theorem oo_no (p : Nat) (k : Int) (s q n : Int) (aS : Bool) (aH aL ab b : Int) (hS : Bool) (hH hL : Int) (o : ByteArray) (t sp : Int) (x : World) (h : Bx x p [.int .i64 k, .int .i64 s, .int .i64 q, .int .i64 n, .bool aS, .int .i64 aH, .int .i64 aL, .int .i64 ab, .int .i64 b, .bool hS, .int .i64 hH, .int .i64 hL, .string o, .int .i64 t, .int .i64 sp]) (e1 : (k == 1) = false) (e2 : (k == 2) = false) (e3 : (k == 3) = false) (e4 : (k == 4) = false) (e5 : (k == 5) = false) (e6 : (k == 6) = false) (e7 : (k == 7) = false) (e8 : (k == 8) = false) (e9 : (k == 9) = false) (e10 : (k == 10) = false) (e11 : (k == 11) = false) :
    Calls Tryz.prog 60 #[.pointer (some ⟨p, 0, none⟩)] x fun e w' => e = .returned .nilIface ∧ Bx w' p [.int .i64 0, .int .i64 s, .int .i64 q, .int .i64 n, .bool aS, .int .i64 aH, .int .i64 aL, .int .i64 ab, .int .i64 b, .bool hS, .int .i64 hH, .int .i64 hL, .string o, .int .i64 t, .int .i64 sp] ∧ Kp p x w' := by
  have hLt := h.lt
  have HX := hidP h
  clear h
  go_enter Tryz.func60, Tryz.ntmps60
  go_wp2_with (first | (go_at_call_of 68 (Value.pointer (some (⟨p, 0, none⟩ : Addr))); refine (takeI p 0 [.int .i64 k, .int .i64 s, .int .i64 q, .int .i64 n, .bool aS, .int .i64 aH, .int .i64 aL, .int .i64 ab, .int .i64 b, .bool hS, .int .i64 hH, .int .i64 hL, .string o, .int .i64 t, .int .i64 sp] (k) _ (by repeat (first | with_reducible exact HX.out | (with_reducible refine Bx.drew ?_) | (with_reducible refine Bx.alloc ?_ _))) rfl).mono ?_; rintro e w1 ⟨rfl, hx1, hk1⟩; have HX1 : Hid (Bx w1 p [.int .i64 0, .int .i64 s, .int .i64 q, .int .i64 n, .bool aS, .int .i64 aH, .int .i64 aL, .int .i64 ab, .int .i64 b, .bool hS, .int .i64 hH, .int .i64 hL, .string o, .int .i64 t, .int .i64 sp]) := hidP hx1; have HK1 := hidP hk1;  clear hx1 hk1))
  go_ret
  refine ⟨rfl, HX1.out, ?_⟩
  repeat (first | with_reducible exact Kp.refl _ _ | (with_reducible refine Kp.trans ?_ HK1.out) | (with_reducible refine Kp.more ?_ (by omega) _) | (with_reducible refine Kp.trans ?_ (Kp.drew _ _)) | (with_reducible refine Kp.setNew ?_ (by omega) (by first | omega | (simp; done) | (simp; omega)) _))

end Go.Proofs.YtnchndcanhmbeaaGreatDoor
namespace Go.Proofs.YtnchndcanhmbeaaGreatDoor
open Go.RowKit

set_option maxRecDepth 10000 in
set_option maxHeartbeats 4000000 in
theorem ro_1 (s q n : Int) (aS : Bool) (aH aL : BitVec 64) (ab b : Int) (hS : Bool) (hH hL : Int) (o : ByteArray) (t sp : Int) (TA TH : List UInt8) (HI : Hid (CmI s q n b t sp o)) (HTA : Hid (TA.length ≤ 200 ∧ ∀ w : World, Tabs w → Calls Tryz.prog 84 #[.agg #[.bool aS, .int .i64 aH.toInt, .int .i64 aL.toInt, .int .i64 ab]] w fun e w' => e = .returned (.string ⟨TA.toArray⟩) ∧ Below w.heap.size w w')) (HTH : Hid (TH.length ≤ 200 ∧ ∀ w : World, Tabs w → Calls Tryz.prog 87 #[.agg #[.bool hS, .int .i64 hH, .int .i64 hL]] w fun e w' => e = .returned (.string ⟨TH.toArray⟩) ∧ Below w.heap.size w w')) (y : World) (ht : Tabs y) :
    Calls Tryz.prog 47 #[.agg #[.int .i64 1, .int .i64 s, .int .i64 q, .int .i64 n, .bool aS, .int .i64 aH.toInt, .int .i64 aL.toInt, .int .i64 ab, .int .i64 b, .bool hS, .int .i64 hH, .int .i64 hL, .string o, .int .i64 t, .int .i64 sp]] y fun e w' => (((zCm (0) (s) (q) (0) (aS) (aH.toInt) (aL.toInt) (ab) (b) (hS) (hH) (hL) (o) (t) (sp) && [((fT ⟨#[110, 111, 119]⟩ n), (rB 0 n 1000000000))].all (fun z => z.2)) = true ∧ e = .returned (.tuple #[.iface 114 (.agg #[.int .i64 n]), .bool true])) ∨ ((zCm (0) (s) (q) (0) (aS) (aH.toInt) (aL.toInt) (ab) (b) (hS) (hH) (hL) (o) (t) (sp) && [((fT ⟨#[110, 111, 119]⟩ n), (rB 0 n 1000000000))].all (fun z => z.2)) = false ∧ e = .returned (.tuple #[.nilIface, .bool false]))) ∧ Below y.heap.size y w' := by
  have HT := hidP ht
  have HFO := hidP (fun w (h : Tabs w) => fo_1 s q n aS aH aL ab b hS hH hL o t sp TA TH HI HTA HTH w h)
  have hlen : [((fT ⟨#[110, 111, 119]⟩ n), (rB 0 n 1000000000))].length = 1 := rfl
  generalize [((fT ⟨#[110, 111, 119]⟩ n), (rB 0 n 1000000000))] = fl at *
  have HL := hidP hlen
  obtain ⟨R, hR⟩ : ∃ R : Bool, R = (zCm (0) (s) (q) (0) (aS) (aH.toInt) (aL.toInt) (ab) (b) (hS) (hH) (hL) (o) (t) (sp) && fl.all (fun z => z.2)) := ⟨_, rfl⟩
  rw [← hR]
  have HR0 := hidP hR
  clear hR
  clear ht hlen HI HTA HTH
  go_enter Tryz.func47, Tryz.ntmps47
  go_wp2_with fail
  have HX0 := hidP (Bx.new y [.int .i64 1, .int .i64 s, .int .i64 q, .int .i64 n, .bool aS, .int .i64 aH.toInt, .int .i64 aL.toInt, .int .i64 ab, .int .i64 b, .bool hS, .int .i64 hH, .int .i64 hL, .string o, .int .i64 t, .int .i64 sp] 35)
  have HU := hidP ((Below.refl y.heap.size y).alloc (Nat.le_refl _) (.cells #[.int .i64 1, .int .i64 s, .int .i64 q, .int .i64 n, .bool aS, .int .i64 aH.toInt, .int .i64 aL.toInt, .int .i64 ab, .int .i64 b, .bool hS, .int .i64 hH, .int .i64 hL, .string o, .int .i64 t, .int .i64 sp] 35))
  refine (oo_1 y.heap.size s q n aS aH.toInt aL.toInt ab b hS hH hL o t sp _ HX0.out).mono ?_
  rintro e w1 ⟨rfl, hx, hk⟩
  have c0 := hx.cel 0 _ rfl
  have c1 := hx.cel 1 _ rfl
  have c2 := hx.cel 2 _ rfl
  have c3 := hx.cel 3 _ rfl
  have c4 := hx.cel 4 _ rfl
  have c5 := hx.cel 5 _ rfl
  have c6 := hx.cel 6 _ rfl
  have c7 := hx.cel 7 _ rfl
  have c8 := hx.cel 8 _ rfl
  have c9 := hx.cel 9 _ rfl
  have c10 := hx.cel 10 _ rfl
  have c11 := hx.cel 11 _ rfl
  have c12 := hx.cel 12 _ rfl
  have c13 := hx.cel 13 _ rfl
  have c14 := hx.cel 14 _ rfl
  have HB1 := hidP (HU.out.trans hk.low)
  have h1 : y.heap.size ≤ w1.heap.size := HB1.out.size
  have hq := eqCm (0) (s) (q) (0) (aS) (aH.toInt) (aL.toInt) (ab) (b) (hS) (hH) (hL) (o) (t) (sp)
  clear hx hk HX0 HU
  generalize zCm (0) (s) (q) (0) (aS) (aH.toInt) (aL.toInt) (ab) (b) (hS) (hH) (hL) (o) (t) (sp) = Z at *
  cases Z
  · have HR : Hid ((false && fl.all (fun z => z.2)) = false) := hidP rfl
    go_wp2_with fail
    go_ret2
    exact ⟨Or.inr ⟨by rw [HR0.out]; exact HR.out, rfl⟩, HB1.out⟩
  · go_wp2_with fail
    refine (HFO.out _ (HT.out.below HB1.out)).mono ?_
    rintro e w2 ⟨a, c, rfl, ho, hb2⟩
    have HB2 := hidP (HB1.out.trans (hb2.mono h1))
    have h2 := HB2.out.size
    have HRow := hidP ho.row
    clear hb2 ho c0 c1 c2 c3 c4 c5 c6 c7 c8 c9 c10 c11 c12 c13 c14 hq
    go_wp2_with fail
    go_loopw [18] (fun t18 x => ∃ k : Nat, k ≤ 1 ∧ t18 = .int .i64 k ∧ Hid ((fl.take k).all (fun z => z.2) = true) ∧ Hid (Below w2.heap.size w2 x)) (fun t18 _ => 1 - (intOf t18).toNat)
    case atStart => exact ⟨0, by omega, rfl, hidP (by simp), hidP (Below.refl _ _)⟩
    case round =>
      obtain ⟨k, hk, rfl, HA, HB⟩ := hrel
      have h3 := HB.out.size
      by_cases hlt : k < 1
      · obtain ⟨p, o', z, rfl, hp, hz, d0, d1⟩ := rowF HRow.out k (by rw [HL.out]; exact hlt)
        have e0 := (HB.out.cell hp).trans d0
        have e1 := (HB.out.cell hp).trans d1
        have hlt' : (k : Int) < 1 := by omega
        have HS := hidP (all_snoc hz)
        have HN := hidP (all_not hz)
        clear d0 d1 hz
        obtain ⟨zt, zf⟩ := z
        cases zf
        · have HR : Hid ((true && fl.all (fun z => z.2)) = false) := hidP (by rw [Bool.true_and]; exact HN.out rfl)
          go_wp2_with fail
          go_ret2
          exact ⟨Or.inr ⟨by rw [HR0.out]; exact HR.out, rfl⟩, (HB2.out.trans (HB.out.mono h2)).alloc (by omega) _⟩
        · go_wp2_with fail
          go_roundw
          case rel => exact ⟨k + 1, by omega, by go_num, hidP (by rw [HS.out, HA.out]; rfl), hidP (HB.out.alloc h3 _)⟩
          case measure => simp [intOf]; omega
      · have HR : Hid ((true && fl.all (fun z => z.2)) = true) := hidP (by rw [Bool.true_and]; have := HA.out; rw [List.take_of_length_le (by rw [HL.out]; omega)] at this; exact this)
        have hkn : k = 1 := by omega
        subst hkn
        go_wp2_with fail
        go_ret2
        exact ⟨Or.inl ⟨by rw [HR0.out]; exact HR.out, rfl⟩, HB2.out.trans (HB.out.mono h2)⟩

set_option maxRecDepth 10000 in
set_option maxHeartbeats 4000000 in
theorem ro_2 (s q n : Int) (aS : Bool) (aH aL : BitVec 64) (ab b : Int) (hS : Bool) (hH hL : Int) (o : ByteArray) (t sp : Int) (TA TH : List UInt8) (HI : Hid (CmI s q n b t sp o)) (HTA : Hid (TA.length ≤ 200 ∧ ∀ w : World, Tabs w → Calls Tryz.prog 84 #[.agg #[.bool aS, .int .i64 aH.toInt, .int .i64 aL.toInt, .int .i64 ab]] w fun e w' => e = .returned (.string ⟨TA.toArray⟩) ∧ Below w.heap.size w w')) (HTH : Hid (TH.length ≤ 200 ∧ ∀ w : World, Tabs w → Calls Tryz.prog 87 #[.agg #[.bool hS, .int .i64 hH, .int .i64 hL]] w fun e w' => e = .returned (.string ⟨TH.toArray⟩) ∧ Below w.heap.size w w')) (y : World) (ht : Tabs y) :
    Calls Tryz.prog 47 #[.agg #[.int .i64 2, .int .i64 s, .int .i64 q, .int .i64 n, .bool aS, .int .i64 aH.toInt, .int .i64 aL.toInt, .int .i64 ab, .int .i64 b, .bool hS, .int .i64 hH, .int .i64 hL, .string o, .int .i64 t, .int .i64 sp]] y fun e w' => (((zCm (0) (0) (q) (0) (aS) (aH.toInt) (aL.toInt) (ab) (b) (hS) (hH) (hL) (o) (t) (sp) && [((fT ⟨#[115, 101, 115, 115, 105, 111, 110]⟩ s), (rB 1 s 1000000)), ((fT ⟨#[110, 111, 119]⟩ n), (rB 0 n 1000000000))].all (fun z => z.2)) = true ∧ e = .returned (.tuple #[.iface 116 (.agg #[.int .i64 s, .int .i64 n]), .bool true])) ∨ ((zCm (0) (0) (q) (0) (aS) (aH.toInt) (aL.toInt) (ab) (b) (hS) (hH) (hL) (o) (t) (sp) && [((fT ⟨#[115, 101, 115, 115, 105, 111, 110]⟩ s), (rB 1 s 1000000)), ((fT ⟨#[110, 111, 119]⟩ n), (rB 0 n 1000000000))].all (fun z => z.2)) = false ∧ e = .returned (.tuple #[.nilIface, .bool false]))) ∧ Below y.heap.size y w' := by
  have HT := hidP ht
  have HFO := hidP (fun w (h : Tabs w) => fo_2 s q n aS aH aL ab b hS hH hL o t sp TA TH HI HTA HTH w h)
  have hlen : [((fT ⟨#[115, 101, 115, 115, 105, 111, 110]⟩ s), (rB 1 s 1000000)), ((fT ⟨#[110, 111, 119]⟩ n), (rB 0 n 1000000000))].length = 2 := rfl
  generalize [((fT ⟨#[115, 101, 115, 115, 105, 111, 110]⟩ s), (rB 1 s 1000000)), ((fT ⟨#[110, 111, 119]⟩ n), (rB 0 n 1000000000))] = fl at *
  have HL := hidP hlen
  obtain ⟨R, hR⟩ : ∃ R : Bool, R = (zCm (0) (0) (q) (0) (aS) (aH.toInt) (aL.toInt) (ab) (b) (hS) (hH) (hL) (o) (t) (sp) && fl.all (fun z => z.2)) := ⟨_, rfl⟩
  rw [← hR]
  have HR0 := hidP hR
  clear hR
  clear ht hlen HI HTA HTH
  go_enter Tryz.func47, Tryz.ntmps47
  go_wp2_with fail
  have HX0 := hidP (Bx.new y [.int .i64 2, .int .i64 s, .int .i64 q, .int .i64 n, .bool aS, .int .i64 aH.toInt, .int .i64 aL.toInt, .int .i64 ab, .int .i64 b, .bool hS, .int .i64 hH, .int .i64 hL, .string o, .int .i64 t, .int .i64 sp] 35)
  have HU := hidP ((Below.refl y.heap.size y).alloc (Nat.le_refl _) (.cells #[.int .i64 2, .int .i64 s, .int .i64 q, .int .i64 n, .bool aS, .int .i64 aH.toInt, .int .i64 aL.toInt, .int .i64 ab, .int .i64 b, .bool hS, .int .i64 hH, .int .i64 hL, .string o, .int .i64 t, .int .i64 sp] 35))
  refine (oo_2 y.heap.size s q n aS aH.toInt aL.toInt ab b hS hH hL o t sp _ HX0.out).mono ?_
  rintro e w1 ⟨rfl, hx, hk⟩
  have c0 := hx.cel 0 _ rfl
  have c1 := hx.cel 1 _ rfl
  have c2 := hx.cel 2 _ rfl
  have c3 := hx.cel 3 _ rfl
  have c4 := hx.cel 4 _ rfl
  have c5 := hx.cel 5 _ rfl
  have c6 := hx.cel 6 _ rfl
  have c7 := hx.cel 7 _ rfl
  have c8 := hx.cel 8 _ rfl
  have c9 := hx.cel 9 _ rfl
  have c10 := hx.cel 10 _ rfl
  have c11 := hx.cel 11 _ rfl
  have c12 := hx.cel 12 _ rfl
  have c13 := hx.cel 13 _ rfl
  have c14 := hx.cel 14 _ rfl
  have HB1 := hidP (HU.out.trans hk.low)
  have h1 : y.heap.size ≤ w1.heap.size := HB1.out.size
  have hq := eqCm (0) (0) (q) (0) (aS) (aH.toInt) (aL.toInt) (ab) (b) (hS) (hH) (hL) (o) (t) (sp)
  clear hx hk HX0 HU
  generalize zCm (0) (0) (q) (0) (aS) (aH.toInt) (aL.toInt) (ab) (b) (hS) (hH) (hL) (o) (t) (sp) = Z at *
  cases Z
  · have HR : Hid ((false && fl.all (fun z => z.2)) = false) := hidP rfl
    go_wp2_with fail
    go_ret2
    exact ⟨Or.inr ⟨by rw [HR0.out]; exact HR.out, rfl⟩, HB1.out⟩
  · go_wp2_with fail
    refine (HFO.out _ (HT.out.below HB1.out)).mono ?_
    rintro e w2 ⟨a, c, rfl, ho, hb2⟩
    have HB2 := hidP (HB1.out.trans (hb2.mono h1))
    have h2 := HB2.out.size
    have HRow := hidP ho.row
    clear hb2 ho c0 c1 c2 c3 c4 c5 c6 c7 c8 c9 c10 c11 c12 c13 c14 hq
    go_wp2_with fail
    go_loopw [18] (fun t18 x => ∃ k : Nat, k ≤ 2 ∧ t18 = .int .i64 k ∧ Hid ((fl.take k).all (fun z => z.2) = true) ∧ Hid (Below w2.heap.size w2 x)) (fun t18 _ => 2 - (intOf t18).toNat)
    case atStart => exact ⟨0, by omega, rfl, hidP (by simp), hidP (Below.refl _ _)⟩
    case round =>
      obtain ⟨k, hk, rfl, HA, HB⟩ := hrel
      have h3 := HB.out.size
      by_cases hlt : k < 2
      · obtain ⟨p, o', z, rfl, hp, hz, d0, d1⟩ := rowF HRow.out k (by rw [HL.out]; exact hlt)
        have e0 := (HB.out.cell hp).trans d0
        have e1 := (HB.out.cell hp).trans d1
        have hlt' : (k : Int) < 2 := by omega
        have HS := hidP (all_snoc hz)
        have HN := hidP (all_not hz)
        clear d0 d1 hz
        obtain ⟨zt, zf⟩ := z
        cases zf
        · have HR : Hid ((true && fl.all (fun z => z.2)) = false) := hidP (by rw [Bool.true_and]; exact HN.out rfl)
          go_wp2_with fail
          go_ret2
          exact ⟨Or.inr ⟨by rw [HR0.out]; exact HR.out, rfl⟩, (HB2.out.trans (HB.out.mono h2)).alloc (by omega) _⟩
        · go_wp2_with fail
          go_roundw
          case rel => exact ⟨k + 1, by omega, by go_num, hidP (by rw [HS.out, HA.out]; rfl), hidP (HB.out.alloc h3 _)⟩
          case measure => simp [intOf]; omega
      · have HR : Hid ((true && fl.all (fun z => z.2)) = true) := hidP (by rw [Bool.true_and]; have := HA.out; rw [List.take_of_length_le (by rw [HL.out]; omega)] at this; exact this)
        have hkn : k = 2 := by omega
        subst hkn
        go_wp2_with fail
        go_ret2
        exact ⟨Or.inl ⟨by rw [HR0.out]; exact HR.out, rfl⟩, HB2.out.trans (HB.out.mono h2)⟩

end Go.Proofs.YtnchndcanhmbeaaGreatDoor
namespace Go.Proofs.YtnchndcanhmbeaaGreatDoor
open Go.RowKit

set_option maxRecDepth 10000 in
set_option maxHeartbeats 4000000 in
theorem ro_3 (s q n : Int) (aS : Bool) (aH aL : BitVec 64) (ab b : Int) (hS : Bool) (hH hL : Int) (o : ByteArray) (t sp : Int) (TA TH : List UInt8) (HI : Hid (CmI s q n b t sp o)) (HTA : Hid (TA.length ≤ 200 ∧ ∀ w : World, Tabs w → Calls Tryz.prog 84 #[.agg #[.bool aS, .int .i64 aH.toInt, .int .i64 aL.toInt, .int .i64 ab]] w fun e w' => e = .returned (.string ⟨TA.toArray⟩) ∧ Below w.heap.size w w')) (HTH : Hid (TH.length ≤ 200 ∧ ∀ w : World, Tabs w → Calls Tryz.prog 87 #[.agg #[.bool hS, .int .i64 hH, .int .i64 hL]] w fun e w' => e = .returned (.string ⟨TH.toArray⟩) ∧ Below w.heap.size w w')) (y : World) (ht : Tabs y) :
    Calls Tryz.prog 47 #[.agg #[.int .i64 3, .int .i64 s, .int .i64 q, .int .i64 n, .bool aS, .int .i64 aH.toInt, .int .i64 aL.toInt, .int .i64 ab, .int .i64 b, .bool hS, .int .i64 hH, .int .i64 hL, .string o, .int .i64 t, .int .i64 sp]] y fun e w' => (((zCm (0) (0) (0) (0) (false) (0) (0) (0) (0) (hS) (hH) (hL) (o) (t) (sp) && [((fT ⟨#[115, 101, 115, 115, 105, 111, 110]⟩ s), (rB 1 s 1000000)), ((fT ⟨#[115, 101, 113]⟩ q), (rB 1 q 1000000)), ((fT ⟨#[110, 111, 119]⟩ n), (rB 0 n 1000000000)), ((aT TA), (pokB aS aH aL ab)), ((fT ⟨#[98, 105, 116, 115]⟩ b), (rB 0 b 128))].all (fun z => z.2)) = true ∧ e = .returned (.tuple #[.iface 123 (.agg #[.int .i64 s, .int .i64 q, .int .i64 n, .bool aS, .int .i64 aH.toInt, .int .i64 aL.toInt, .int .i64 ab, .int .i64 b]), .bool true])) ∨ ((zCm (0) (0) (0) (0) (false) (0) (0) (0) (0) (hS) (hH) (hL) (o) (t) (sp) && [((fT ⟨#[115, 101, 115, 115, 105, 111, 110]⟩ s), (rB 1 s 1000000)), ((fT ⟨#[115, 101, 113]⟩ q), (rB 1 q 1000000)), ((fT ⟨#[110, 111, 119]⟩ n), (rB 0 n 1000000000)), ((aT TA), (pokB aS aH aL ab)), ((fT ⟨#[98, 105, 116, 115]⟩ b), (rB 0 b 128))].all (fun z => z.2)) = false ∧ e = .returned (.tuple #[.nilIface, .bool false]))) ∧ Below y.heap.size y w' := by
  have HT := hidP ht
  have HFO := hidP (fun w (h : Tabs w) => fo_3 s q n aS aH aL ab b hS hH hL o t sp TA TH HI HTA HTH w h)
  have hlen : [((fT ⟨#[115, 101, 115, 115, 105, 111, 110]⟩ s), (rB 1 s 1000000)), ((fT ⟨#[115, 101, 113]⟩ q), (rB 1 q 1000000)), ((fT ⟨#[110, 111, 119]⟩ n), (rB 0 n 1000000000)), ((aT TA), (pokB aS aH aL ab)), ((fT ⟨#[98, 105, 116, 115]⟩ b), (rB 0 b 128))].length = 5 := rfl
  generalize [((fT ⟨#[115, 101, 115, 115, 105, 111, 110]⟩ s), (rB 1 s 1000000)), ((fT ⟨#[115, 101, 113]⟩ q), (rB 1 q 1000000)), ((fT ⟨#[110, 111, 119]⟩ n), (rB 0 n 1000000000)), ((aT TA), (pokB aS aH aL ab)), ((fT ⟨#[98, 105, 116, 115]⟩ b), (rB 0 b 128))] = fl at *
  have HL := hidP hlen
  obtain ⟨R, hR⟩ : ∃ R : Bool, R = (zCm (0) (0) (0) (0) (false) (0) (0) (0) (0) (hS) (hH) (hL) (o) (t) (sp) && fl.all (fun z => z.2)) := ⟨_, rfl⟩
  rw [← hR]
  have HR0 := hidP hR
  clear hR
  clear ht hlen HI HTA HTH
  go_enter Tryz.func47, Tryz.ntmps47
  go_wp2_with fail
  have HX0 := hidP (Bx.new y [.int .i64 3, .int .i64 s, .int .i64 q, .int .i64 n, .bool aS, .int .i64 aH.toInt, .int .i64 aL.toInt, .int .i64 ab, .int .i64 b, .bool hS, .int .i64 hH, .int .i64 hL, .string o, .int .i64 t, .int .i64 sp] 35)
  have HU := hidP ((Below.refl y.heap.size y).alloc (Nat.le_refl _) (.cells #[.int .i64 3, .int .i64 s, .int .i64 q, .int .i64 n, .bool aS, .int .i64 aH.toInt, .int .i64 aL.toInt, .int .i64 ab, .int .i64 b, .bool hS, .int .i64 hH, .int .i64 hL, .string o, .int .i64 t, .int .i64 sp] 35))
  refine (oo_3 y.heap.size s q n aS aH.toInt aL.toInt ab b hS hH hL o t sp _ HX0.out).mono ?_
  rintro e w1 ⟨rfl, hx, hk⟩
  have c0 := hx.cel 0 _ rfl
  have c1 := hx.cel 1 _ rfl
  have c2 := hx.cel 2 _ rfl
  have c3 := hx.cel 3 _ rfl
  have c4 := hx.cel 4 _ rfl
  have c5 := hx.cel 5 _ rfl
  have c6 := hx.cel 6 _ rfl
  have c7 := hx.cel 7 _ rfl
  have c8 := hx.cel 8 _ rfl
  have c9 := hx.cel 9 _ rfl
  have c10 := hx.cel 10 _ rfl
  have c11 := hx.cel 11 _ rfl
  have c12 := hx.cel 12 _ rfl
  have c13 := hx.cel 13 _ rfl
  have c14 := hx.cel 14 _ rfl
  have HB1 := hidP (HU.out.trans hk.low)
  have h1 : y.heap.size ≤ w1.heap.size := HB1.out.size
  have hq := eqCm (0) (0) (0) (0) (false) (0) (0) (0) (0) (hS) (hH) (hL) (o) (t) (sp)
  clear hx hk HX0 HU
  generalize zCm (0) (0) (0) (0) (false) (0) (0) (0) (0) (hS) (hH) (hL) (o) (t) (sp) = Z at *
  cases Z
  · have HR : Hid ((false && fl.all (fun z => z.2)) = false) := hidP rfl
    go_wp2_with fail
    go_ret2
    exact ⟨Or.inr ⟨by rw [HR0.out]; exact HR.out, rfl⟩, HB1.out⟩
  · go_wp2_with fail
    refine (HFO.out _ (HT.out.below HB1.out)).mono ?_
    rintro e w2 ⟨a, c, rfl, ho, hb2⟩
    have HB2 := hidP (HB1.out.trans (hb2.mono h1))
    have h2 := HB2.out.size
    have HRow := hidP ho.row
    clear hb2 ho c0 c1 c2 c3 c4 c5 c6 c7 c8 c9 c10 c11 c12 c13 c14 hq
    go_wp2_with fail
    go_loopw [18] (fun t18 x => ∃ k : Nat, k ≤ 5 ∧ t18 = .int .i64 k ∧ Hid ((fl.take k).all (fun z => z.2) = true) ∧ Hid (Below w2.heap.size w2 x)) (fun t18 _ => 5 - (intOf t18).toNat)
    case atStart => exact ⟨0, by omega, rfl, hidP (by simp), hidP (Below.refl _ _)⟩
    case round =>
      obtain ⟨k, hk, rfl, HA, HB⟩ := hrel
      have h3 := HB.out.size
      by_cases hlt : k < 5
      · obtain ⟨p, o', z, rfl, hp, hz, d0, d1⟩ := rowF HRow.out k (by rw [HL.out]; exact hlt)
        have e0 := (HB.out.cell hp).trans d0
        have e1 := (HB.out.cell hp).trans d1
        have hlt' : (k : Int) < 5 := by omega
        have HS := hidP (all_snoc hz)
        have HN := hidP (all_not hz)
        clear d0 d1 hz
        obtain ⟨zt, zf⟩ := z
        cases zf
        · have HR : Hid ((true && fl.all (fun z => z.2)) = false) := hidP (by rw [Bool.true_and]; exact HN.out rfl)
          go_wp2_with fail
          go_ret2
          exact ⟨Or.inr ⟨by rw [HR0.out]; exact HR.out, rfl⟩, (HB2.out.trans (HB.out.mono h2)).alloc (by omega) _⟩
        · go_wp2_with fail
          go_roundw
          case rel => exact ⟨k + 1, by omega, by go_num, hidP (by rw [HS.out, HA.out]; rfl), hidP (HB.out.alloc h3 _)⟩
          case measure => simp [intOf]; omega
      · have HR : Hid ((true && fl.all (fun z => z.2)) = true) := hidP (by rw [Bool.true_and]; have := HA.out; rw [List.take_of_length_le (by rw [HL.out]; omega)] at this; exact this)
        have hkn : k = 5 := by omega
        subst hkn
        go_wp2_with fail
        go_ret2
        exact ⟨Or.inl ⟨by rw [HR0.out]; exact HR.out, rfl⟩, HB2.out.trans (HB.out.mono h2)⟩

set_option maxRecDepth 10000 in
set_option maxHeartbeats 4000000 in
theorem ro_4 (s q n : Int) (aS : Bool) (aH aL : BitVec 64) (ab b : Int) (hS : Bool) (hH hL : Int) (o : ByteArray) (t sp : Int) (TA TH : List UInt8) (HI : Hid (CmI s q n b t sp o)) (HTA : Hid (TA.length ≤ 200 ∧ ∀ w : World, Tabs w → Calls Tryz.prog 84 #[.agg #[.bool aS, .int .i64 aH.toInt, .int .i64 aL.toInt, .int .i64 ab]] w fun e w' => e = .returned (.string ⟨TA.toArray⟩) ∧ Below w.heap.size w w')) (HTH : Hid (TH.length ≤ 200 ∧ ∀ w : World, Tabs w → Calls Tryz.prog 87 #[.agg #[.bool hS, .int .i64 hH, .int .i64 hL]] w fun e w' => e = .returned (.string ⟨TH.toArray⟩) ∧ Below w.heap.size w w')) (y : World) (ht : Tabs y) :
    Calls Tryz.prog 47 #[.agg #[.int .i64 4, .int .i64 s, .int .i64 q, .int .i64 n, .bool aS, .int .i64 aH.toInt, .int .i64 aL.toInt, .int .i64 ab, .int .i64 b, .bool hS, .int .i64 hH, .int .i64 hL, .string o, .int .i64 t, .int .i64 sp]] y fun e w' => (((zCm (0) (0) (0) (0) (false) (0) (0) (0) (b) (hS) (hH) (hL) (o) (t) (sp) && [((fT ⟨#[115, 101, 115, 115, 105, 111, 110]⟩ s), (rB 1 s 1000000)), ((fT ⟨#[115, 101, 113]⟩ q), (rB 1 q 1000000)), ((fT ⟨#[110, 111, 119]⟩ n), (rB 0 n 1000000000)), ((aT TA), (pokB aS aH aL ab))].all (fun z => z.2)) = true ∧ e = .returned (.tuple #[.iface 125 (.agg #[.int .i64 s, .int .i64 q, .int .i64 n, .bool aS, .int .i64 aH.toInt, .int .i64 aL.toInt, .int .i64 ab]), .bool true])) ∨ ((zCm (0) (0) (0) (0) (false) (0) (0) (0) (b) (hS) (hH) (hL) (o) (t) (sp) && [((fT ⟨#[115, 101, 115, 115, 105, 111, 110]⟩ s), (rB 1 s 1000000)), ((fT ⟨#[115, 101, 113]⟩ q), (rB 1 q 1000000)), ((fT ⟨#[110, 111, 119]⟩ n), (rB 0 n 1000000000)), ((aT TA), (pokB aS aH aL ab))].all (fun z => z.2)) = false ∧ e = .returned (.tuple #[.nilIface, .bool false]))) ∧ Below y.heap.size y w' := by
  have HT := hidP ht
  have HFO := hidP (fun w (h : Tabs w) => fo_4 s q n aS aH aL ab b hS hH hL o t sp TA TH HI HTA HTH w h)
  have hlen : [((fT ⟨#[115, 101, 115, 115, 105, 111, 110]⟩ s), (rB 1 s 1000000)), ((fT ⟨#[115, 101, 113]⟩ q), (rB 1 q 1000000)), ((fT ⟨#[110, 111, 119]⟩ n), (rB 0 n 1000000000)), ((aT TA), (pokB aS aH aL ab))].length = 4 := rfl
  generalize [((fT ⟨#[115, 101, 115, 115, 105, 111, 110]⟩ s), (rB 1 s 1000000)), ((fT ⟨#[115, 101, 113]⟩ q), (rB 1 q 1000000)), ((fT ⟨#[110, 111, 119]⟩ n), (rB 0 n 1000000000)), ((aT TA), (pokB aS aH aL ab))] = fl at *
  have HL := hidP hlen
  obtain ⟨R, hR⟩ : ∃ R : Bool, R = (zCm (0) (0) (0) (0) (false) (0) (0) (0) (b) (hS) (hH) (hL) (o) (t) (sp) && fl.all (fun z => z.2)) := ⟨_, rfl⟩
  rw [← hR]
  have HR0 := hidP hR
  clear hR
  clear ht hlen HI HTA HTH
  go_enter Tryz.func47, Tryz.ntmps47
  go_wp2_with fail
  have HX0 := hidP (Bx.new y [.int .i64 4, .int .i64 s, .int .i64 q, .int .i64 n, .bool aS, .int .i64 aH.toInt, .int .i64 aL.toInt, .int .i64 ab, .int .i64 b, .bool hS, .int .i64 hH, .int .i64 hL, .string o, .int .i64 t, .int .i64 sp] 35)
  have HU := hidP ((Below.refl y.heap.size y).alloc (Nat.le_refl _) (.cells #[.int .i64 4, .int .i64 s, .int .i64 q, .int .i64 n, .bool aS, .int .i64 aH.toInt, .int .i64 aL.toInt, .int .i64 ab, .int .i64 b, .bool hS, .int .i64 hH, .int .i64 hL, .string o, .int .i64 t, .int .i64 sp] 35))
  refine (oo_4 y.heap.size s q n aS aH.toInt aL.toInt ab b hS hH hL o t sp _ HX0.out).mono ?_
  rintro e w1 ⟨rfl, hx, hk⟩
  have c0 := hx.cel 0 _ rfl
  have c1 := hx.cel 1 _ rfl
  have c2 := hx.cel 2 _ rfl
  have c3 := hx.cel 3 _ rfl
  have c4 := hx.cel 4 _ rfl
  have c5 := hx.cel 5 _ rfl
  have c6 := hx.cel 6 _ rfl
  have c7 := hx.cel 7 _ rfl
  have c8 := hx.cel 8 _ rfl
  have c9 := hx.cel 9 _ rfl
  have c10 := hx.cel 10 _ rfl
  have c11 := hx.cel 11 _ rfl
  have c12 := hx.cel 12 _ rfl
  have c13 := hx.cel 13 _ rfl
  have c14 := hx.cel 14 _ rfl
  have HB1 := hidP (HU.out.trans hk.low)
  have h1 : y.heap.size ≤ w1.heap.size := HB1.out.size
  have hq := eqCm (0) (0) (0) (0) (false) (0) (0) (0) (b) (hS) (hH) (hL) (o) (t) (sp)
  clear hx hk HX0 HU
  generalize zCm (0) (0) (0) (0) (false) (0) (0) (0) (b) (hS) (hH) (hL) (o) (t) (sp) = Z at *
  cases Z
  · have HR : Hid ((false && fl.all (fun z => z.2)) = false) := hidP rfl
    go_wp2_with fail
    go_ret2
    exact ⟨Or.inr ⟨by rw [HR0.out]; exact HR.out, rfl⟩, HB1.out⟩
  · go_wp2_with fail
    refine (HFO.out _ (HT.out.below HB1.out)).mono ?_
    rintro e w2 ⟨a, c, rfl, ho, hb2⟩
    have HB2 := hidP (HB1.out.trans (hb2.mono h1))
    have h2 := HB2.out.size
    have HRow := hidP ho.row
    clear hb2 ho c0 c1 c2 c3 c4 c5 c6 c7 c8 c9 c10 c11 c12 c13 c14 hq
    go_wp2_with fail
    go_loopw [18] (fun t18 x => ∃ k : Nat, k ≤ 4 ∧ t18 = .int .i64 k ∧ Hid ((fl.take k).all (fun z => z.2) = true) ∧ Hid (Below w2.heap.size w2 x)) (fun t18 _ => 4 - (intOf t18).toNat)
    case atStart => exact ⟨0, by omega, rfl, hidP (by simp), hidP (Below.refl _ _)⟩
    case round =>
      obtain ⟨k, hk, rfl, HA, HB⟩ := hrel
      have h3 := HB.out.size
      by_cases hlt : k < 4
      · obtain ⟨p, o', z, rfl, hp, hz, d0, d1⟩ := rowF HRow.out k (by rw [HL.out]; exact hlt)
        have e0 := (HB.out.cell hp).trans d0
        have e1 := (HB.out.cell hp).trans d1
        have hlt' : (k : Int) < 4 := by omega
        have HS := hidP (all_snoc hz)
        have HN := hidP (all_not hz)
        clear d0 d1 hz
        obtain ⟨zt, zf⟩ := z
        cases zf
        · have HR : Hid ((true && fl.all (fun z => z.2)) = false) := hidP (by rw [Bool.true_and]; exact HN.out rfl)
          go_wp2_with fail
          go_ret2
          exact ⟨Or.inr ⟨by rw [HR0.out]; exact HR.out, rfl⟩, (HB2.out.trans (HB.out.mono h2)).alloc (by omega) _⟩
        · go_wp2_with fail
          go_roundw
          case rel => exact ⟨k + 1, by omega, by go_num, hidP (by rw [HS.out, HA.out]; rfl), hidP (HB.out.alloc h3 _)⟩
          case measure => simp [intOf]; omega
      · have HR : Hid ((true && fl.all (fun z => z.2)) = true) := hidP (by rw [Bool.true_and]; have := HA.out; rw [List.take_of_length_le (by rw [HL.out]; omega)] at this; exact this)
        have hkn : k = 4 := by omega
        subst hkn
        go_wp2_with fail
        go_ret2
        exact ⟨Or.inl ⟨by rw [HR0.out]; exact HR.out, rfl⟩, HB2.out.trans (HB.out.mono h2)⟩

end Go.Proofs.YtnchndcanhmbeaaGreatDoor
namespace Go.Proofs.YtnchndcanhmbeaaGreatDoor
open Go.RowKit

set_option maxRecDepth 10000 in
set_option maxHeartbeats 4000000 in
theorem fo_5 (s q n : Int) (aS : Bool) (aH aL : BitVec 64) (ab b : Int) (hS : Bool) (hH hL : Int) (o : ByteArray) (t sp : Int) (TA TH : List UInt8) (HI : Hid (CmI s q n b t sp o)) (HTA : Hid (TA.length ≤ 200 ∧ ∀ w : World, Tabs w → Calls Tryz.prog 84 #[.agg #[.bool aS, .int .i64 aH.toInt, .int .i64 aL.toInt, .int .i64 ab]] w fun e w' => e = .returned (.string ⟨TA.toArray⟩) ∧ Below w.heap.size w w')) (_ : Hid (TH.length ≤ 200 ∧ ∀ w : World, Tabs w → Calls Tryz.prog 87 #[.agg #[.bool hS, .int .i64 hH, .int .i64 hL]] w fun e w' => e = .returned (.string ⟨TH.toArray⟩) ∧ Below w.heap.size w w')) (y : World) (ht : Tabs y) :
    Calls Tryz.prog 61 #[.iface 129 (.agg #[.int .i64 s, .int .i64 q, .int .i64 n, .bool aS, .int .i64 aH.toInt, .int .i64 aL.toInt, .int .i64 ab, .string o])] y fun e w' => ∃ a c, e = .returned (.slice a 5 c) ∧ OwnG KF 106 w' y.heap.size (.slice a 5 c) [((fT ⟨#[115, 101, 115, 115, 105, 111, 110]⟩ s), (rB 1 s 1000000)), ((fT ⟨#[115, 101, 113]⟩ q), (rB 1 q 1000000)), ((fT ⟨#[110, 111, 119]⟩ n), (rB 0 n 1000000000)), ((aT TA), (pokB aS aH aL ab)), ((oT o), (ownB o))] ∧ Below y.heap.size y w' := by
  have HT := hidP ht
  clear ht
  have a1 : ∀ w : World, (Instr.typeAssert (.iface 129 (.agg #[.int .i64 s, .int .i64 q, .int .i64 n, .bool aS, .int .i64 aH.toInt, .int .i64 aL.toInt, .int .i64 ab, .string o])) 80 114 true).run Tryz.prog w = .ok (.tuple #[.agg #[.int .i64 0], .bool false]) w := fun _ => by kernel_rfl
  have a2 : ∀ w : World, (Instr.typeAssert (.iface 129 (.agg #[.int .i64 s, .int .i64 q, .int .i64 n, .bool aS, .int .i64 aH.toInt, .int .i64 aL.toInt, .int .i64 ab, .string o])) 80 116 true).run Tryz.prog w = .ok (.tuple #[.agg #[.int .i64 0, .int .i64 0], .bool false]) w := fun _ => by kernel_rfl
  have a3 : ∀ w : World, (Instr.typeAssert (.iface 129 (.agg #[.int .i64 s, .int .i64 q, .int .i64 n, .bool aS, .int .i64 aH.toInt, .int .i64 aL.toInt, .int .i64 ab, .string o])) 80 123 true).run Tryz.prog w = .ok (.tuple #[.agg #[.int .i64 0, .int .i64 0, .int .i64 0, .bool false, .int .i64 0, .int .i64 0, .int .i64 0, .int .i64 0], .bool false]) w := fun _ => by kernel_rfl
  have a4 : ∀ w : World, (Instr.typeAssert (.iface 129 (.agg #[.int .i64 s, .int .i64 q, .int .i64 n, .bool aS, .int .i64 aH.toInt, .int .i64 aL.toInt, .int .i64 ab, .string o])) 80 125 true).run Tryz.prog w = .ok (.tuple #[.agg #[.int .i64 0, .int .i64 0, .int .i64 0, .bool false, .int .i64 0, .int .i64 0, .int .i64 0], .bool false]) w := fun _ => by kernel_rfl
  have a5 : ∀ w : World, (Instr.typeAssert (.iface 129 (.agg #[.int .i64 s, .int .i64 q, .int .i64 n, .bool aS, .int .i64 aH.toInt, .int .i64 aL.toInt, .int .i64 ab, .string o])) 80 129 true).run Tryz.prog w = .ok (.tuple #[.agg #[.int .i64 s, .int .i64 q, .int .i64 n, .bool aS, .int .i64 aH.toInt, .int .i64 aL.toInt, .int .i64 ab, .string o], .bool true]) w := fun _ => by kernel_rfl
  have CS := hidP (fun w (h : Tabs w) => sessionField_any s HI.out.s w h)
  have CQ := hidP (fun w (h : Tabs w) => seqField_any q HI.out.q w h)
  have CN := hidP (fun w (h : Tabs w) => nowField_any n HI.out.n w h)
  have CA := hidP (fun w (h : Tabs w) => atField_any aS aH aL ab TA HTA.out.1 HTA.out.2 w h)
  have CO := hidP (fun w => ownerField_any o HI.out.o w)
  have CW := hidP (fun g m bs w h e1 e2 e3 => with_any s q n HI.out.s HI.out.q HI.out.n g m bs w h e1 e2 e3)
  generalize fT ⟨#[115, 101, 115, 115, 105, 111, 110]⟩ s = TS at *
  generalize rB 1 s 1000000 = rS at *
  generalize fT ⟨#[115, 101, 113]⟩ q = TQ at *
  generalize rB 1 q 1000000 = rQ at *
  generalize fT ⟨#[110, 111, 119]⟩ n = TN at *
  generalize rB 0 n 1000000000 = rN at *
  generalize aT TA = TA at *
  generalize pokB aS aH aL ab = rA at *
  generalize oT o = TO at *
  generalize ownB o = rO at *
  clear HI HTA
  go_enter Tryz.func61, Tryz.ntmps61
  go_wp2_with fail
  have u0 : (y.alloc (.cells #[.int .i64 s, .int .i64 q, .int .i64 n, .bool aS, .int .i64 aH.toInt, .int .i64 aL.toInt, .int .i64 ab, .string o] 129)).cell? ⟨y.heap.size, 0, none⟩ = some (.int .i64 s) := by simp [go_sem]
  have u1 : (y.alloc (.cells #[.int .i64 s, .int .i64 q, .int .i64 n, .bool aS, .int .i64 aH.toInt, .int .i64 aL.toInt, .int .i64 ab, .string o] 129)).cell? ⟨y.heap.size, 1, none⟩ = some (.int .i64 q) := by simp [go_sem]
  have u2 : (y.alloc (.cells #[.int .i64 s, .int .i64 q, .int .i64 n, .bool aS, .int .i64 aH.toInt, .int .i64 aL.toInt, .int .i64 ab, .string o] 129)).cell? ⟨y.heap.size, 2, none⟩ = some (.int .i64 n) := by simp [go_sem]
  have u3 : (y.alloc (.cells #[.int .i64 s, .int .i64 q, .int .i64 n, .bool aS, .int .i64 aH.toInt, .int .i64 aL.toInt, .int .i64 ab, .string o] 129)).cell? ⟨y.heap.size, 3, none⟩ = some (.bool aS) := by simp [go_sem]
  have u4 : (y.alloc (.cells #[.int .i64 s, .int .i64 q, .int .i64 n, .bool aS, .int .i64 aH.toInt, .int .i64 aL.toInt, .int .i64 ab, .string o] 129)).cell? ⟨y.heap.size, 4, none⟩ = some (.int .i64 aH.toInt) := by simp [go_sem]
  have u5 : (y.alloc (.cells #[.int .i64 s, .int .i64 q, .int .i64 n, .bool aS, .int .i64 aH.toInt, .int .i64 aL.toInt, .int .i64 ab, .string o] 129)).cell? ⟨y.heap.size, 5, none⟩ = some (.int .i64 aL.toInt) := by simp [go_sem]
  have u6 : (y.alloc (.cells #[.int .i64 s, .int .i64 q, .int .i64 n, .bool aS, .int .i64 aH.toInt, .int .i64 aL.toInt, .int .i64 ab, .string o] 129)).cell? ⟨y.heap.size, 6, none⟩ = some (.int .i64 ab) := by simp [go_sem]
  have u7 : (y.alloc (.cells #[.int .i64 s, .int .i64 q, .int .i64 n, .bool aS, .int .i64 aH.toInt, .int .i64 aL.toInt, .int .i64 ab, .string o] 129)).cell? ⟨y.heap.size, 7, none⟩ = some (.string o) := by simp [go_sem]
  have uL : y.heap.size < (y.alloc (.cells #[.int .i64 s, .int .i64 q, .int .i64 n, .bool aS, .int .i64 aH.toInt, .int .i64 aL.toInt, .int .i64 ab, .string o] 129)).heap.size := by simp
  have HU := hidP ((Below.refl y.heap.size y).alloc (Nat.le_refl _) (.cells #[.int .i64 s, .int .i64 q, .int .i64 n, .bool aS, .int .i64 aH.toInt, .int .i64 aL.toInt, .int .i64 ab, .string o] 129))
  generalize y.alloc (.cells #[.int .i64 s, .int .i64 q, .int .i64 n, .bool aS, .int .i64 aH.toInt, .int .i64 aL.toInt, .int .i64 ab, .string o] 129) = W1 at *
  have hU := HU.out.size
  have HSx : Hid (∀ x, Below W1.heap.size W1 x → (x.cell? ⟨y.heap.size, 0, none⟩ = some (.int .i64 s) ∧ x.cell? ⟨y.heap.size, 1, none⟩ = some (.int .i64 q) ∧ x.cell? ⟨y.heap.size, 2, none⟩ = some (.int .i64 n) ∧ x.cell? ⟨y.heap.size, 3, none⟩ = some (.bool aS) ∧ x.cell? ⟨y.heap.size, 4, none⟩ = some (.int .i64 aH.toInt) ∧ x.cell? ⟨y.heap.size, 5, none⟩ = some (.int .i64 aL.toInt) ∧ x.cell? ⟨y.heap.size, 6, none⟩ = some (.int .i64 ab) ∧ x.cell? ⟨y.heap.size, 7, none⟩ = some (.string o) ∧ Below W1.heap.size W1 x)) := hidP fun x h =>
    ⟨(h.cell uL).trans u0, (h.cell uL).trans u1, (h.cell uL).trans u2, (h.cell uL).trans u3, (h.cell uL).trans u4, (h.cell uL).trans u5, (h.cell uL).trans u6, (h.cell uL).trans u7, h⟩
  refine wp_region_held_drew (S := (fun x => x.cell? ⟨y.heap.size, 0, none⟩ = some (.int .i64 s) ∧ x.cell? ⟨y.heap.size, 1, none⟩ = some (.int .i64 q) ∧ x.cell? ⟨y.heap.size, 2, none⟩ = some (.int .i64 n) ∧ x.cell? ⟨y.heap.size, 3, none⟩ = some (.bool aS) ∧ x.cell? ⟨y.heap.size, 4, none⟩ = some (.int .i64 aH.toInt) ∧ x.cell? ⟨y.heap.size, 5, none⟩ = some (.int .i64 aL.toInt) ∧ x.cell? ⟨y.heap.size, 6, none⟩ = some (.int .i64 ab) ∧ x.cell? ⟨y.heap.size, 7, none⟩ = some (.string o) ∧ Below W1.heap.size W1 x)) (by kernel_rfl) ?_ (fun hHeld => ?_)
  · try dsimp only
    exact HSx.out _ ((Below.refl _ _).drew)
  refine tkA 0 58 (v := ?_) rfl (by kernel_rfl) (fun _ _ _ h => h) (by rfl) ?_ (by assumption) ?_; rotate_left; · (intro w hSw; (try dsimp only at hSw); go_simp; try with_reducible rfl)
  simp only [pa]
  refine tkA 1 59 (v := ?_) rfl (by kernel_rfl) (fun _ _ _ h => h) (by rfl) ?_ (by assumption) ?_; rotate_left; · (intro w hSw; (try dsimp only at hSw); go_simp; try with_reducible rfl)
  simp only [pa]
  refine tkA 2 60 (v := ?_) rfl (by kernel_rfl) (fun _ _ _ h => h) (by rfl) ?_ (by assumption) ?_; rotate_left; · (intro w hSw; (try dsimp only at hSw); go_simp; try with_reducible rfl)
  simp only [pa]
  refine tkA 3 61 (v := ?_) rfl (by kernel_rfl) (fun _ _ _ h => h) (by rfl) ?_ (by assumption) ?_; rotate_left; · (intro w hSw; (try dsimp only at hSw); go_simp; try with_reducible rfl)
  simp only [pa]
  refine tkA 5 63 (v := ?_) rfl (by kernel_rfl) (fun _ _ _ h => h) (by rfl) ?_ (by assumption) ?_; rotate_left; · (intro w hSw; (try dsimp only at hSw); go_simp; try with_reducible rfl)
  simp only [pa]
  refine tkA 6 64 (v := ?_) rfl (by kernel_rfl) (fun _ _ _ h => h) (by rfl) ?_ (by assumption) ?_; rotate_left; · (intro w hSw; (try dsimp only at hSw); go_simp; try with_reducible rfl)
  simp only [pa]
  refine wpAnyH_ready (rs := [4]) (by kernel_rfl) (by simp) ?_
  refine AllReadyH.cons rfl (fun K hK => ?_) AllReadyH.nil
  go_simp
  go_wp2_with (first | (go_at_call 76; refine (CA.out _ (HT.out.below (HU.out.trans ((hHeld.2.2.2.2.2.2.2.2).mono hU)))).mono ?_; rintro e w2 ⟨rfl, hb2⟩; have b2 := (hHeld.2.2.2.2.2.2.2.2).trans (hb2.mono (hHeld.2.2.2.2.2.2.2.2).size)))
  refine hK.out _ _ ?_ (fun hHeld => ?_)
  · try dsimp only
    exact HSx.out _ b2
  clear hK K
  refine wpAnyH_ready (rs := [7]) (by kernel_rfl) (by simp) ?_
  refine AllReadyH.cons rfl (fun K hK => ?_) AllReadyH.nil
  go_simp
  go_wp2_with (first | (go_at_call 78; refine (CO.out _).mono ?_; rintro e w3 ⟨rfl, hb3⟩; have b3 := (hHeld.2.2.2.2.2.2.2.2).trans (hb3.mono (hHeld.2.2.2.2.2.2.2.2).size)))
  refine hK.out _ _ ?_ (fun hHeld => ?_)
  · try dsimp only
    exact HSx.out _ b3
  clear hK K
  refine wpAnyH_ready (rs := [8]) (by kernel_rfl) (by simp) ?_
  refine AllReadyH.cons rfl (fun K hK => ?_) AllReadyH.nil
  go_simp
  have bA := (hHeld.2.2.2.2.2.2.2.2).alloc (hHeld.2.2.2.2.2.2.2.2).size (.cells #[.string TA, .bool rA, .string TO, .bool rO] 106)
  refine hK.out _ _ ?_ (fun hHeld => ?_)
  · try dsimp only
    exact HSx.out _ bA
  clear hK K
  refine wpAnyH_ready (rs := [9]) (by kernel_rfl) (by simp) ?_
  refine AllReadyH.cons rfl (fun K hK => ?_) AllReadyH.nil
  go_simp
  go_wp2_with (first | (go_at_call 75; refine (CW.out w3.heap.size 2 [(TA, rA), (TO, rO)] _ (HT.out.below (HU.out.trans ((hHeld.2.2.2.2.2.2.2.2).mono hU))) rfl (by omega) (own_manyG KF w3 0 106 [(TA, rA), (TO, rO)] #[.string TA, .bool rA, .string TO, .bool rO] rfl 2 rfl (by omega) (Nat.zero_le _)).row).mono ?_; rintro e w4 ⟨a9, c9, rfl, ho9, hb4⟩; have b4 := (hHeld.2.2.2.2.2.2.2.2).trans (hb4.mono (hHeld.2.2.2.2.2.2.2.2).size)))
  refine hK.out _ _ ?_ (fun hHeld => ?_)
  · try dsimp only
    exact HSx.out _ b4
  clear hK K
  refine tkA 10 2 (v := ?_) rfl (by kernel_rfl) (fun _ _ _ h => h) (by rfl) ?_ (by assumption) ?_; rotate_left; · (intro w hSw; (try dsimp only at hSw); go_simp; try with_reducible rfl)
  simp only [Act.put, List.setIfInBounds_toArray]
  have HE := hidP (hHeld.2.2.2.2.2.2.2.2)
  refine wpAnyH_done (by kernel_rfl) ?_ _
  clear hHeld
  have hA := bA.size
  go_wp2_with fail
  go_ret
  exact ⟨a9, c9, by simp, ho9.mono (by simp; simp at hA; omega), HU.out.trans (HE.out.mono hU)⟩

set_option maxRecDepth 10000 in
set_option maxHeartbeats 4000000 in
theorem fo_6 (s q n : Int) (aS : Bool) (aH aL : BitVec 64) (ab b : Int) (hS : Bool) (hH hL : Int) (o : ByteArray) (t sp : Int) (TA TH : List UInt8) (HI : Hid (CmI s q n b t sp o)) (HTA : Hid (TA.length ≤ 200 ∧ ∀ w : World, Tabs w → Calls Tryz.prog 84 #[.agg #[.bool aS, .int .i64 aH.toInt, .int .i64 aL.toInt, .int .i64 ab]] w fun e w' => e = .returned (.string ⟨TA.toArray⟩) ∧ Below w.heap.size w w')) (_ : Hid (TH.length ≤ 200 ∧ ∀ w : World, Tabs w → Calls Tryz.prog 87 #[.agg #[.bool hS, .int .i64 hH, .int .i64 hL]] w fun e w' => e = .returned (.string ⟨TH.toArray⟩) ∧ Below w.heap.size w w')) (y : World) (ht : Tabs y) :
    Calls Tryz.prog 61 #[.iface 130 (.agg #[.int .i64 s, .int .i64 q, .int .i64 n, .bool aS, .int .i64 aH.toInt, .int .i64 aL.toInt, .int .i64 ab, .string o])] y fun e w' => ∃ a c, e = .returned (.slice a 5 c) ∧ OwnG KF 106 w' y.heap.size (.slice a 5 c) [((fT ⟨#[115, 101, 115, 115, 105, 111, 110]⟩ s), (rB 1 s 1000000)), ((fT ⟨#[115, 101, 113]⟩ q), (rB 1 q 1000000)), ((fT ⟨#[110, 111, 119]⟩ n), (rB 0 n 1000000000)), ((aT TA), (pokB aS aH aL ab)), ((oT o), (ownB o))] ∧ Below y.heap.size y w' := by
  have HT := hidP ht
  clear ht
  have a1 : ∀ w : World, (Instr.typeAssert (.iface 130 (.agg #[.int .i64 s, .int .i64 q, .int .i64 n, .bool aS, .int .i64 aH.toInt, .int .i64 aL.toInt, .int .i64 ab, .string o])) 80 114 true).run Tryz.prog w = .ok (.tuple #[.agg #[.int .i64 0], .bool false]) w := fun _ => by kernel_rfl
  have a2 : ∀ w : World, (Instr.typeAssert (.iface 130 (.agg #[.int .i64 s, .int .i64 q, .int .i64 n, .bool aS, .int .i64 aH.toInt, .int .i64 aL.toInt, .int .i64 ab, .string o])) 80 116 true).run Tryz.prog w = .ok (.tuple #[.agg #[.int .i64 0, .int .i64 0], .bool false]) w := fun _ => by kernel_rfl
  have a3 : ∀ w : World, (Instr.typeAssert (.iface 130 (.agg #[.int .i64 s, .int .i64 q, .int .i64 n, .bool aS, .int .i64 aH.toInt, .int .i64 aL.toInt, .int .i64 ab, .string o])) 80 123 true).run Tryz.prog w = .ok (.tuple #[.agg #[.int .i64 0, .int .i64 0, .int .i64 0, .bool false, .int .i64 0, .int .i64 0, .int .i64 0, .int .i64 0], .bool false]) w := fun _ => by kernel_rfl
  have a4 : ∀ w : World, (Instr.typeAssert (.iface 130 (.agg #[.int .i64 s, .int .i64 q, .int .i64 n, .bool aS, .int .i64 aH.toInt, .int .i64 aL.toInt, .int .i64 ab, .string o])) 80 125 true).run Tryz.prog w = .ok (.tuple #[.agg #[.int .i64 0, .int .i64 0, .int .i64 0, .bool false, .int .i64 0, .int .i64 0, .int .i64 0], .bool false]) w := fun _ => by kernel_rfl
  have a5 : ∀ w : World, (Instr.typeAssert (.iface 130 (.agg #[.int .i64 s, .int .i64 q, .int .i64 n, .bool aS, .int .i64 aH.toInt, .int .i64 aL.toInt, .int .i64 ab, .string o])) 80 129 true).run Tryz.prog w = .ok (.tuple #[.agg #[.int .i64 0, .int .i64 0, .int .i64 0, .bool false, .int .i64 0, .int .i64 0, .int .i64 0, .string ⟨#[]⟩], .bool false]) w := fun _ => by kernel_rfl
  have a6 : ∀ w : World, (Instr.typeAssert (.iface 130 (.agg #[.int .i64 s, .int .i64 q, .int .i64 n, .bool aS, .int .i64 aH.toInt, .int .i64 aL.toInt, .int .i64 ab, .string o])) 80 130 true).run Tryz.prog w = .ok (.tuple #[.agg #[.int .i64 s, .int .i64 q, .int .i64 n, .bool aS, .int .i64 aH.toInt, .int .i64 aL.toInt, .int .i64 ab, .string o], .bool true]) w := fun _ => by kernel_rfl
  have CS := hidP (fun w (h : Tabs w) => sessionField_any s HI.out.s w h)
  have CQ := hidP (fun w (h : Tabs w) => seqField_any q HI.out.q w h)
  have CN := hidP (fun w (h : Tabs w) => nowField_any n HI.out.n w h)
  have CA := hidP (fun w (h : Tabs w) => atField_any aS aH aL ab TA HTA.out.1 HTA.out.2 w h)
  have CO := hidP (fun w => ownerField_any o HI.out.o w)
  have CW := hidP (fun g m bs w h e1 e2 e3 => with_any s q n HI.out.s HI.out.q HI.out.n g m bs w h e1 e2 e3)
  generalize fT ⟨#[115, 101, 115, 115, 105, 111, 110]⟩ s = TS at *
  generalize rB 1 s 1000000 = rS at *
  generalize fT ⟨#[115, 101, 113]⟩ q = TQ at *
  generalize rB 1 q 1000000 = rQ at *
  generalize fT ⟨#[110, 111, 119]⟩ n = TN at *
  generalize rB 0 n 1000000000 = rN at *
  generalize aT TA = TA at *
  generalize pokB aS aH aL ab = rA at *
  generalize oT o = TO at *
  generalize ownB o = rO at *
  clear HI HTA
  go_enter Tryz.func61, Tryz.ntmps61
  go_wp2_with fail
  have u0 : (y.alloc (.cells #[.int .i64 s, .int .i64 q, .int .i64 n, .bool aS, .int .i64 aH.toInt, .int .i64 aL.toInt, .int .i64 ab, .string o] 130)).cell? ⟨y.heap.size, 0, none⟩ = some (.int .i64 s) := by simp [go_sem]
  have u1 : (y.alloc (.cells #[.int .i64 s, .int .i64 q, .int .i64 n, .bool aS, .int .i64 aH.toInt, .int .i64 aL.toInt, .int .i64 ab, .string o] 130)).cell? ⟨y.heap.size, 1, none⟩ = some (.int .i64 q) := by simp [go_sem]
  have u2 : (y.alloc (.cells #[.int .i64 s, .int .i64 q, .int .i64 n, .bool aS, .int .i64 aH.toInt, .int .i64 aL.toInt, .int .i64 ab, .string o] 130)).cell? ⟨y.heap.size, 2, none⟩ = some (.int .i64 n) := by simp [go_sem]
  have u3 : (y.alloc (.cells #[.int .i64 s, .int .i64 q, .int .i64 n, .bool aS, .int .i64 aH.toInt, .int .i64 aL.toInt, .int .i64 ab, .string o] 130)).cell? ⟨y.heap.size, 3, none⟩ = some (.bool aS) := by simp [go_sem]
  have u4 : (y.alloc (.cells #[.int .i64 s, .int .i64 q, .int .i64 n, .bool aS, .int .i64 aH.toInt, .int .i64 aL.toInt, .int .i64 ab, .string o] 130)).cell? ⟨y.heap.size, 4, none⟩ = some (.int .i64 aH.toInt) := by simp [go_sem]
  have u5 : (y.alloc (.cells #[.int .i64 s, .int .i64 q, .int .i64 n, .bool aS, .int .i64 aH.toInt, .int .i64 aL.toInt, .int .i64 ab, .string o] 130)).cell? ⟨y.heap.size, 5, none⟩ = some (.int .i64 aL.toInt) := by simp [go_sem]
  have u6 : (y.alloc (.cells #[.int .i64 s, .int .i64 q, .int .i64 n, .bool aS, .int .i64 aH.toInt, .int .i64 aL.toInt, .int .i64 ab, .string o] 130)).cell? ⟨y.heap.size, 6, none⟩ = some (.int .i64 ab) := by simp [go_sem]
  have u7 : (y.alloc (.cells #[.int .i64 s, .int .i64 q, .int .i64 n, .bool aS, .int .i64 aH.toInt, .int .i64 aL.toInt, .int .i64 ab, .string o] 130)).cell? ⟨y.heap.size, 7, none⟩ = some (.string o) := by simp [go_sem]
  have uL : y.heap.size < (y.alloc (.cells #[.int .i64 s, .int .i64 q, .int .i64 n, .bool aS, .int .i64 aH.toInt, .int .i64 aL.toInt, .int .i64 ab, .string o] 130)).heap.size := by simp
  have HU := hidP ((Below.refl y.heap.size y).alloc (Nat.le_refl _) (.cells #[.int .i64 s, .int .i64 q, .int .i64 n, .bool aS, .int .i64 aH.toInt, .int .i64 aL.toInt, .int .i64 ab, .string o] 130))
  generalize y.alloc (.cells #[.int .i64 s, .int .i64 q, .int .i64 n, .bool aS, .int .i64 aH.toInt, .int .i64 aL.toInt, .int .i64 ab, .string o] 130) = W1 at *
  have hU := HU.out.size
  have HSx : Hid (∀ x, Below W1.heap.size W1 x → (x.cell? ⟨y.heap.size, 0, none⟩ = some (.int .i64 s) ∧ x.cell? ⟨y.heap.size, 1, none⟩ = some (.int .i64 q) ∧ x.cell? ⟨y.heap.size, 2, none⟩ = some (.int .i64 n) ∧ x.cell? ⟨y.heap.size, 3, none⟩ = some (.bool aS) ∧ x.cell? ⟨y.heap.size, 4, none⟩ = some (.int .i64 aH.toInt) ∧ x.cell? ⟨y.heap.size, 5, none⟩ = some (.int .i64 aL.toInt) ∧ x.cell? ⟨y.heap.size, 6, none⟩ = some (.int .i64 ab) ∧ x.cell? ⟨y.heap.size, 7, none⟩ = some (.string o) ∧ Below W1.heap.size W1 x)) := hidP fun x h =>
    ⟨(h.cell uL).trans u0, (h.cell uL).trans u1, (h.cell uL).trans u2, (h.cell uL).trans u3, (h.cell uL).trans u4, (h.cell uL).trans u5, (h.cell uL).trans u6, (h.cell uL).trans u7, h⟩
  refine wp_region_held_drew (S := (fun x => x.cell? ⟨y.heap.size, 0, none⟩ = some (.int .i64 s) ∧ x.cell? ⟨y.heap.size, 1, none⟩ = some (.int .i64 q) ∧ x.cell? ⟨y.heap.size, 2, none⟩ = some (.int .i64 n) ∧ x.cell? ⟨y.heap.size, 3, none⟩ = some (.bool aS) ∧ x.cell? ⟨y.heap.size, 4, none⟩ = some (.int .i64 aH.toInt) ∧ x.cell? ⟨y.heap.size, 5, none⟩ = some (.int .i64 aL.toInt) ∧ x.cell? ⟨y.heap.size, 6, none⟩ = some (.int .i64 ab) ∧ x.cell? ⟨y.heap.size, 7, none⟩ = some (.string o) ∧ Below W1.heap.size W1 x)) (by kernel_rfl) ?_ (fun hHeld => ?_)
  · try dsimp only
    exact HSx.out _ ((Below.refl _ _).drew)
  refine tkA 0 71 (v := ?_) rfl (by kernel_rfl) (fun _ _ _ h => h) (by rfl) ?_ (by assumption) ?_; rotate_left; · (intro w hSw; (try dsimp only at hSw); go_simp; try with_reducible rfl)
  simp only [pa]
  refine tkA 1 72 (v := ?_) rfl (by kernel_rfl) (fun _ _ _ h => h) (by rfl) ?_ (by assumption) ?_; rotate_left; · (intro w hSw; (try dsimp only at hSw); go_simp; try with_reducible rfl)
  simp only [pa]
  refine tkA 2 73 (v := ?_) rfl (by kernel_rfl) (fun _ _ _ h => h) (by rfl) ?_ (by assumption) ?_; rotate_left; · (intro w hSw; (try dsimp only at hSw); go_simp; try with_reducible rfl)
  simp only [pa]
  refine tkA 3 74 (v := ?_) rfl (by kernel_rfl) (fun _ _ _ h => h) (by rfl) ?_ (by assumption) ?_; rotate_left; · (intro w hSw; (try dsimp only at hSw); go_simp; try with_reducible rfl)
  simp only [pa]
  refine tkA 5 76 (v := ?_) rfl (by kernel_rfl) (fun _ _ _ h => h) (by rfl) ?_ (by assumption) ?_; rotate_left; · (intro w hSw; (try dsimp only at hSw); go_simp; try with_reducible rfl)
  simp only [pa]
  refine tkA 6 77 (v := ?_) rfl (by kernel_rfl) (fun _ _ _ h => h) (by rfl) ?_ (by assumption) ?_; rotate_left; · (intro w hSw; (try dsimp only at hSw); go_simp; try with_reducible rfl)
  simp only [pa]
  refine wpAnyH_ready (rs := [4]) (by kernel_rfl) (by simp) ?_
  refine AllReadyH.cons rfl (fun K hK => ?_) AllReadyH.nil
  go_simp
  go_wp2_with (first | (go_at_call 76; refine (CA.out _ (HT.out.below (HU.out.trans ((hHeld.2.2.2.2.2.2.2.2).mono hU)))).mono ?_; rintro e w2 ⟨rfl, hb2⟩; have b2 := (hHeld.2.2.2.2.2.2.2.2).trans (hb2.mono (hHeld.2.2.2.2.2.2.2.2).size)))
  refine hK.out _ _ ?_ (fun hHeld => ?_)
  · try dsimp only
    exact HSx.out _ b2
  clear hK K
  refine wpAnyH_ready (rs := [7]) (by kernel_rfl) (by simp) ?_
  refine AllReadyH.cons rfl (fun K hK => ?_) AllReadyH.nil
  go_simp
  go_wp2_with (first | (go_at_call 78; refine (CO.out _).mono ?_; rintro e w3 ⟨rfl, hb3⟩; have b3 := (hHeld.2.2.2.2.2.2.2.2).trans (hb3.mono (hHeld.2.2.2.2.2.2.2.2).size)))
  refine hK.out _ _ ?_ (fun hHeld => ?_)
  · try dsimp only
    exact HSx.out _ b3
  clear hK K
  refine wpAnyH_ready (rs := [8]) (by kernel_rfl) (by simp) ?_
  refine AllReadyH.cons rfl (fun K hK => ?_) AllReadyH.nil
  go_simp
  have bA := (hHeld.2.2.2.2.2.2.2.2).alloc (hHeld.2.2.2.2.2.2.2.2).size (.cells #[.string TA, .bool rA, .string TO, .bool rO] 106)
  refine hK.out _ _ ?_ (fun hHeld => ?_)
  · try dsimp only
    exact HSx.out _ bA
  clear hK K
  refine wpAnyH_ready (rs := [9]) (by kernel_rfl) (by simp) ?_
  refine AllReadyH.cons rfl (fun K hK => ?_) AllReadyH.nil
  go_simp
  go_wp2_with (first | (go_at_call 75; refine (CW.out w3.heap.size 2 [(TA, rA), (TO, rO)] _ (HT.out.below (HU.out.trans ((hHeld.2.2.2.2.2.2.2.2).mono hU))) rfl (by omega) (own_manyG KF w3 0 106 [(TA, rA), (TO, rO)] #[.string TA, .bool rA, .string TO, .bool rO] rfl 2 rfl (by omega) (Nat.zero_le _)).row).mono ?_; rintro e w4 ⟨a9, c9, rfl, ho9, hb4⟩; have b4 := (hHeld.2.2.2.2.2.2.2.2).trans (hb4.mono (hHeld.2.2.2.2.2.2.2.2).size)))
  refine hK.out _ _ ?_ (fun hHeld => ?_)
  · try dsimp only
    exact HSx.out _ b4
  clear hK K
  refine tkA 10 2 (v := ?_) rfl (by kernel_rfl) (fun _ _ _ h => h) (by rfl) ?_ (by assumption) ?_; rotate_left; · (intro w hSw; (try dsimp only at hSw); go_simp; try with_reducible rfl)
  simp only [Act.put, List.setIfInBounds_toArray]
  have HE := hidP (hHeld.2.2.2.2.2.2.2.2)
  refine wpAnyH_done (by kernel_rfl) ?_ _
  clear hHeld
  have hA := bA.size
  go_wp2_with fail
  go_ret
  exact ⟨a9, c9, by simp, ho9.mono (by simp; simp at hA; omega), HU.out.trans (HE.out.mono hU)⟩

set_option maxRecDepth 10000 in
set_option maxHeartbeats 4000000 in
theorem fo_7 (s q n : Int) (aS : Bool) (aH aL : BitVec 64) (ab b : Int) (hS : Bool) (hH hL : Int) (o : ByteArray) (t sp : Int) (TA TH : List UInt8) (HI : Hid (CmI s q n b t sp o)) (HTA : Hid (TA.length ≤ 200 ∧ ∀ w : World, Tabs w → Calls Tryz.prog 84 #[.agg #[.bool aS, .int .i64 aH.toInt, .int .i64 aL.toInt, .int .i64 ab]] w fun e w' => e = .returned (.string ⟨TA.toArray⟩) ∧ Below w.heap.size w w')) (_ : Hid (TH.length ≤ 200 ∧ ∀ w : World, Tabs w → Calls Tryz.prog 87 #[.agg #[.bool hS, .int .i64 hH, .int .i64 hL]] w fun e w' => e = .returned (.string ⟨TH.toArray⟩) ∧ Below w.heap.size w w')) (y : World) (ht : Tabs y) :
    Calls Tryz.prog 61 #[.iface 132 (.agg #[.int .i64 s, .int .i64 q, .int .i64 n, .bool aS, .int .i64 aH.toInt, .int .i64 aL.toInt, .int .i64 ab, .string o, .int .i64 sp])] y fun e w' => ∃ a c, e = .returned (.slice a 6 c) ∧ OwnG KF 106 w' y.heap.size (.slice a 6 c) [((fT ⟨#[115, 101, 115, 115, 105, 111, 110]⟩ s), (rB 1 s 1000000)), ((fT ⟨#[115, 101, 113]⟩ q), (rB 1 q 1000000)), ((fT ⟨#[110, 111, 119]⟩ n), (rB 0 n 1000000000)), ((aT TA), (pokB aS aH aL ab)), ((oT o), (ownB o)), ((fT ⟨#[115, 112, 97, 110]⟩ sp), (rB 1 sp 1000))] ∧ Below y.heap.size y w' := by
  have HT := hidP ht
  clear ht
  have a1 : ∀ w : World, (Instr.typeAssert (.iface 132 (.agg #[.int .i64 s, .int .i64 q, .int .i64 n, .bool aS, .int .i64 aH.toInt, .int .i64 aL.toInt, .int .i64 ab, .string o, .int .i64 sp])) 80 114 true).run Tryz.prog w = .ok (.tuple #[.agg #[.int .i64 0], .bool false]) w := fun _ => by kernel_rfl
  have a2 : ∀ w : World, (Instr.typeAssert (.iface 132 (.agg #[.int .i64 s, .int .i64 q, .int .i64 n, .bool aS, .int .i64 aH.toInt, .int .i64 aL.toInt, .int .i64 ab, .string o, .int .i64 sp])) 80 116 true).run Tryz.prog w = .ok (.tuple #[.agg #[.int .i64 0, .int .i64 0], .bool false]) w := fun _ => by kernel_rfl
  have a3 : ∀ w : World, (Instr.typeAssert (.iface 132 (.agg #[.int .i64 s, .int .i64 q, .int .i64 n, .bool aS, .int .i64 aH.toInt, .int .i64 aL.toInt, .int .i64 ab, .string o, .int .i64 sp])) 80 123 true).run Tryz.prog w = .ok (.tuple #[.agg #[.int .i64 0, .int .i64 0, .int .i64 0, .bool false, .int .i64 0, .int .i64 0, .int .i64 0, .int .i64 0], .bool false]) w := fun _ => by kernel_rfl
  have a4 : ∀ w : World, (Instr.typeAssert (.iface 132 (.agg #[.int .i64 s, .int .i64 q, .int .i64 n, .bool aS, .int .i64 aH.toInt, .int .i64 aL.toInt, .int .i64 ab, .string o, .int .i64 sp])) 80 125 true).run Tryz.prog w = .ok (.tuple #[.agg #[.int .i64 0, .int .i64 0, .int .i64 0, .bool false, .int .i64 0, .int .i64 0, .int .i64 0], .bool false]) w := fun _ => by kernel_rfl
  have a5 : ∀ w : World, (Instr.typeAssert (.iface 132 (.agg #[.int .i64 s, .int .i64 q, .int .i64 n, .bool aS, .int .i64 aH.toInt, .int .i64 aL.toInt, .int .i64 ab, .string o, .int .i64 sp])) 80 129 true).run Tryz.prog w = .ok (.tuple #[.agg #[.int .i64 0, .int .i64 0, .int .i64 0, .bool false, .int .i64 0, .int .i64 0, .int .i64 0, .string ⟨#[]⟩], .bool false]) w := fun _ => by kernel_rfl
  have a6 : ∀ w : World, (Instr.typeAssert (.iface 132 (.agg #[.int .i64 s, .int .i64 q, .int .i64 n, .bool aS, .int .i64 aH.toInt, .int .i64 aL.toInt, .int .i64 ab, .string o, .int .i64 sp])) 80 130 true).run Tryz.prog w = .ok (.tuple #[.agg #[.int .i64 0, .int .i64 0, .int .i64 0, .bool false, .int .i64 0, .int .i64 0, .int .i64 0, .string ⟨#[]⟩], .bool false]) w := fun _ => by kernel_rfl
  have a7 : ∀ w : World, (Instr.typeAssert (.iface 132 (.agg #[.int .i64 s, .int .i64 q, .int .i64 n, .bool aS, .int .i64 aH.toInt, .int .i64 aL.toInt, .int .i64 ab, .string o, .int .i64 sp])) 80 132 true).run Tryz.prog w = .ok (.tuple #[.agg #[.int .i64 s, .int .i64 q, .int .i64 n, .bool aS, .int .i64 aH.toInt, .int .i64 aL.toInt, .int .i64 ab, .string o, .int .i64 sp], .bool true]) w := fun _ => by kernel_rfl
  have CS := hidP (fun w (h : Tabs w) => sessionField_any s HI.out.s w h)
  have CQ := hidP (fun w (h : Tabs w) => seqField_any q HI.out.q w h)
  have CN := hidP (fun w (h : Tabs w) => nowField_any n HI.out.n w h)
  have CA := hidP (fun w (h : Tabs w) => atField_any aS aH aL ab TA HTA.out.1 HTA.out.2 w h)
  have CO := hidP (fun w => ownerField_any o HI.out.o w)
  have CP := hidP (fun w (h : Tabs w) => spanField_any sp HI.out.p w h)
  have CW := hidP (fun g m bs w h e1 e2 e3 => with_any s q n HI.out.s HI.out.q HI.out.n g m bs w h e1 e2 e3)
  generalize fT ⟨#[115, 101, 115, 115, 105, 111, 110]⟩ s = TS at *
  generalize rB 1 s 1000000 = rS at *
  generalize fT ⟨#[115, 101, 113]⟩ q = TQ at *
  generalize rB 1 q 1000000 = rQ at *
  generalize fT ⟨#[110, 111, 119]⟩ n = TN at *
  generalize rB 0 n 1000000000 = rN at *
  generalize aT TA = TA at *
  generalize pokB aS aH aL ab = rA at *
  generalize oT o = TO at *
  generalize ownB o = rO at *
  generalize fT ⟨#[115, 112, 97, 110]⟩ sp = TP at *
  generalize rB 1 sp 1000 = rP at *
  clear HI HTA
  go_enter Tryz.func61, Tryz.ntmps61
  go_wp2_with fail
  have u0 : (y.alloc (.cells #[.int .i64 s, .int .i64 q, .int .i64 n, .bool aS, .int .i64 aH.toInt, .int .i64 aL.toInt, .int .i64 ab, .string o, .int .i64 sp] 132)).cell? ⟨y.heap.size, 0, none⟩ = some (.int .i64 s) := by simp [go_sem]
  have u1 : (y.alloc (.cells #[.int .i64 s, .int .i64 q, .int .i64 n, .bool aS, .int .i64 aH.toInt, .int .i64 aL.toInt, .int .i64 ab, .string o, .int .i64 sp] 132)).cell? ⟨y.heap.size, 1, none⟩ = some (.int .i64 q) := by simp [go_sem]
  have u2 : (y.alloc (.cells #[.int .i64 s, .int .i64 q, .int .i64 n, .bool aS, .int .i64 aH.toInt, .int .i64 aL.toInt, .int .i64 ab, .string o, .int .i64 sp] 132)).cell? ⟨y.heap.size, 2, none⟩ = some (.int .i64 n) := by simp [go_sem]
  have u3 : (y.alloc (.cells #[.int .i64 s, .int .i64 q, .int .i64 n, .bool aS, .int .i64 aH.toInt, .int .i64 aL.toInt, .int .i64 ab, .string o, .int .i64 sp] 132)).cell? ⟨y.heap.size, 3, none⟩ = some (.bool aS) := by simp [go_sem]
  have u4 : (y.alloc (.cells #[.int .i64 s, .int .i64 q, .int .i64 n, .bool aS, .int .i64 aH.toInt, .int .i64 aL.toInt, .int .i64 ab, .string o, .int .i64 sp] 132)).cell? ⟨y.heap.size, 4, none⟩ = some (.int .i64 aH.toInt) := by simp [go_sem]
  have u5 : (y.alloc (.cells #[.int .i64 s, .int .i64 q, .int .i64 n, .bool aS, .int .i64 aH.toInt, .int .i64 aL.toInt, .int .i64 ab, .string o, .int .i64 sp] 132)).cell? ⟨y.heap.size, 5, none⟩ = some (.int .i64 aL.toInt) := by simp [go_sem]
  have u6 : (y.alloc (.cells #[.int .i64 s, .int .i64 q, .int .i64 n, .bool aS, .int .i64 aH.toInt, .int .i64 aL.toInt, .int .i64 ab, .string o, .int .i64 sp] 132)).cell? ⟨y.heap.size, 6, none⟩ = some (.int .i64 ab) := by simp [go_sem]
  have u7 : (y.alloc (.cells #[.int .i64 s, .int .i64 q, .int .i64 n, .bool aS, .int .i64 aH.toInt, .int .i64 aL.toInt, .int .i64 ab, .string o, .int .i64 sp] 132)).cell? ⟨y.heap.size, 7, none⟩ = some (.string o) := by simp [go_sem]
  have u8 : (y.alloc (.cells #[.int .i64 s, .int .i64 q, .int .i64 n, .bool aS, .int .i64 aH.toInt, .int .i64 aL.toInt, .int .i64 ab, .string o, .int .i64 sp] 132)).cell? ⟨y.heap.size, 8, none⟩ = some (.int .i64 sp) := by simp [go_sem]
  have uL : y.heap.size < (y.alloc (.cells #[.int .i64 s, .int .i64 q, .int .i64 n, .bool aS, .int .i64 aH.toInt, .int .i64 aL.toInt, .int .i64 ab, .string o, .int .i64 sp] 132)).heap.size := by simp
  have HU := hidP ((Below.refl y.heap.size y).alloc (Nat.le_refl _) (.cells #[.int .i64 s, .int .i64 q, .int .i64 n, .bool aS, .int .i64 aH.toInt, .int .i64 aL.toInt, .int .i64 ab, .string o, .int .i64 sp] 132))
  generalize y.alloc (.cells #[.int .i64 s, .int .i64 q, .int .i64 n, .bool aS, .int .i64 aH.toInt, .int .i64 aL.toInt, .int .i64 ab, .string o, .int .i64 sp] 132) = W1 at *
  have hU := HU.out.size
  have HSx : Hid (∀ x, Below W1.heap.size W1 x → (x.cell? ⟨y.heap.size, 0, none⟩ = some (.int .i64 s) ∧ x.cell? ⟨y.heap.size, 1, none⟩ = some (.int .i64 q) ∧ x.cell? ⟨y.heap.size, 2, none⟩ = some (.int .i64 n) ∧ x.cell? ⟨y.heap.size, 3, none⟩ = some (.bool aS) ∧ x.cell? ⟨y.heap.size, 4, none⟩ = some (.int .i64 aH.toInt) ∧ x.cell? ⟨y.heap.size, 5, none⟩ = some (.int .i64 aL.toInt) ∧ x.cell? ⟨y.heap.size, 6, none⟩ = some (.int .i64 ab) ∧ x.cell? ⟨y.heap.size, 7, none⟩ = some (.string o) ∧ x.cell? ⟨y.heap.size, 8, none⟩ = some (.int .i64 sp) ∧ Below W1.heap.size W1 x)) := hidP fun x h =>
    ⟨(h.cell uL).trans u0, (h.cell uL).trans u1, (h.cell uL).trans u2, (h.cell uL).trans u3, (h.cell uL).trans u4, (h.cell uL).trans u5, (h.cell uL).trans u6, (h.cell uL).trans u7, (h.cell uL).trans u8, h⟩
  refine wp_region_held_drew (S := (fun x => x.cell? ⟨y.heap.size, 0, none⟩ = some (.int .i64 s) ∧ x.cell? ⟨y.heap.size, 1, none⟩ = some (.int .i64 q) ∧ x.cell? ⟨y.heap.size, 2, none⟩ = some (.int .i64 n) ∧ x.cell? ⟨y.heap.size, 3, none⟩ = some (.bool aS) ∧ x.cell? ⟨y.heap.size, 4, none⟩ = some (.int .i64 aH.toInt) ∧ x.cell? ⟨y.heap.size, 5, none⟩ = some (.int .i64 aL.toInt) ∧ x.cell? ⟨y.heap.size, 6, none⟩ = some (.int .i64 ab) ∧ x.cell? ⟨y.heap.size, 7, none⟩ = some (.string o) ∧ x.cell? ⟨y.heap.size, 8, none⟩ = some (.int .i64 sp) ∧ Below W1.heap.size W1 x)) (by kernel_rfl) ?_ (fun hHeld => ?_)
  · try dsimp only
    exact HSx.out _ ((Below.refl _ _).drew)
  refine tkA 0 84 (v := ?_) rfl (by kernel_rfl) (fun _ _ _ h => h) (by rfl) ?_ (by assumption) ?_; rotate_left; · (intro w hSw; (try dsimp only at hSw); go_simp; try with_reducible rfl)
  simp only [pa]
  refine tkA 1 85 (v := ?_) rfl (by kernel_rfl) (fun _ _ _ h => h) (by rfl) ?_ (by assumption) ?_; rotate_left; · (intro w hSw; (try dsimp only at hSw); go_simp; try with_reducible rfl)
  simp only [pa]
  refine tkA 2 86 (v := ?_) rfl (by kernel_rfl) (fun _ _ _ h => h) (by rfl) ?_ (by assumption) ?_; rotate_left; · (intro w hSw; (try dsimp only at hSw); go_simp; try with_reducible rfl)
  simp only [pa]
  refine tkA 3 87 (v := ?_) rfl (by kernel_rfl) (fun _ _ _ h => h) (by rfl) ?_ (by assumption) ?_; rotate_left; · (intro w hSw; (try dsimp only at hSw); go_simp; try with_reducible rfl)
  simp only [pa]
  refine tkA 5 89 (v := ?_) rfl (by kernel_rfl) (fun _ _ _ h => h) (by rfl) ?_ (by assumption) ?_; rotate_left; · (intro w hSw; (try dsimp only at hSw); go_simp; try with_reducible rfl)
  simp only [pa]
  refine tkA 6 90 (v := ?_) rfl (by kernel_rfl) (fun _ _ _ h => h) (by rfl) ?_ (by assumption) ?_; rotate_left; · (intro w hSw; (try dsimp only at hSw); go_simp; try with_reducible rfl)
  simp only [pa]
  refine tkA 8 92 (v := ?_) rfl (by kernel_rfl) (fun _ _ _ h => h) (by rfl) ?_ (by assumption) ?_; rotate_left; · (intro w hSw; (try dsimp only at hSw); go_simp; try with_reducible rfl)
  simp only [pa]
  refine tkA 9 93 (v := ?_) rfl (by kernel_rfl) (fun _ _ _ h => h) (by rfl) ?_ (by assumption) ?_; rotate_left; · (intro w hSw; (try dsimp only at hSw); go_simp; try with_reducible rfl)
  simp only [pa]
  refine wpAnyH_ready (rs := [4]) (by kernel_rfl) (by simp) ?_
  refine AllReadyH.cons rfl (fun K hK => ?_) AllReadyH.nil
  go_simp
  go_wp2_with (first | (go_at_call 76; refine (CA.out _ (HT.out.below (HU.out.trans ((hHeld.2.2.2.2.2.2.2.2.2).mono hU)))).mono ?_; rintro e w2 ⟨rfl, hb2⟩; have b2 := (hHeld.2.2.2.2.2.2.2.2.2).trans (hb2.mono (hHeld.2.2.2.2.2.2.2.2.2).size)))
  refine hK.out _ _ ?_ (fun hHeld => ?_)
  · try dsimp only
    exact HSx.out _ b2
  clear hK K
  refine wpAnyH_ready (rs := [7]) (by kernel_rfl) (by simp) ?_
  refine AllReadyH.cons rfl (fun K hK => ?_) AllReadyH.nil
  go_simp
  go_wp2_with (first | (go_at_call 78; refine (CO.out _).mono ?_; rintro e w3 ⟨rfl, hb3⟩; have b3 := (hHeld.2.2.2.2.2.2.2.2.2).trans (hb3.mono (hHeld.2.2.2.2.2.2.2.2.2).size)))
  refine hK.out _ _ ?_ (fun hHeld => ?_)
  · try dsimp only
    exact HSx.out _ b3
  clear hK K
  refine wpAnyH_ready (rs := [10]) (by kernel_rfl) (by simp) ?_
  refine AllReadyH.cons rfl (fun K hK => ?_) AllReadyH.nil
  go_simp
  go_wp2_with (first | (go_at_call 79; refine (CP.out _ (HT.out.below (HU.out.trans ((hHeld.2.2.2.2.2.2.2.2.2).mono hU)))).mono ?_; rintro e w4 ⟨rfl, hb4⟩; have b4 := (hHeld.2.2.2.2.2.2.2.2.2).trans (hb4.mono (hHeld.2.2.2.2.2.2.2.2.2).size)))
  refine hK.out _ _ ?_ (fun hHeld => ?_)
  · try dsimp only
    exact HSx.out _ b4
  clear hK K
  refine wpAnyH_ready (rs := [11]) (by kernel_rfl) (by simp) ?_
  refine AllReadyH.cons rfl (fun K hK => ?_) AllReadyH.nil
  go_simp
  have bA := (hHeld.2.2.2.2.2.2.2.2.2).alloc (hHeld.2.2.2.2.2.2.2.2.2).size (.cells #[.string TA, .bool rA, .string TO, .bool rO, .string TP, .bool rP] 106)
  refine hK.out _ _ ?_ (fun hHeld => ?_)
  · try dsimp only
    exact HSx.out _ bA
  clear hK K
  refine wpAnyH_ready (rs := [12]) (by kernel_rfl) (by simp) ?_
  refine AllReadyH.cons rfl (fun K hK => ?_) AllReadyH.nil
  go_simp
  go_wp2_with (first | (go_at_call 75; refine (CW.out w4.heap.size 3 [(TA, rA), (TO, rO), (TP, rP)] _ (HT.out.below (HU.out.trans ((hHeld.2.2.2.2.2.2.2.2.2).mono hU))) rfl (by omega) (own_manyG KF w4 0 106 [(TA, rA), (TO, rO), (TP, rP)] #[.string TA, .bool rA, .string TO, .bool rO, .string TP, .bool rP] rfl 3 rfl (by omega) (Nat.zero_le _)).row).mono ?_; rintro e w5 ⟨a9, c9, rfl, ho9, hb5⟩; have b5 := (hHeld.2.2.2.2.2.2.2.2.2).trans (hb5.mono (hHeld.2.2.2.2.2.2.2.2.2).size)))
  refine hK.out _ _ ?_ (fun hHeld => ?_)
  · try dsimp only
    exact HSx.out _ b5
  clear hK K
  refine tkA 13 2 (v := ?_) rfl (by kernel_rfl) (fun _ _ _ h => h) (by rfl) ?_ (by assumption) ?_; rotate_left; · (intro w hSw; (try dsimp only at hSw); go_simp; try with_reducible rfl)
  simp only [Act.put, List.setIfInBounds_toArray]
  have HE := hidP (hHeld.2.2.2.2.2.2.2.2.2)
  refine wpAnyH_done (by kernel_rfl) ?_ _
  clear hHeld
  have hA := bA.size
  go_wp2_with fail
  go_ret
  exact ⟨a9, c9, by simp, ho9.mono (by simp; simp at hA; omega), HU.out.trans (HE.out.mono hU)⟩

set_option maxRecDepth 10000 in
set_option maxHeartbeats 4000000 in
theorem fo_11 (s q n : Int) (aS : Bool) (aH aL : BitVec 64) (ab b : Int) (hS : Bool) (hH hL : Int) (o : ByteArray) (t sp : Int) (TA TH : List UInt8) (HI : Hid (CmI s q n b t sp o)) (_ : Hid (TA.length ≤ 200 ∧ ∀ w : World, Tabs w → Calls Tryz.prog 84 #[.agg #[.bool aS, .int .i64 aH.toInt, .int .i64 aL.toInt, .int .i64 ab]] w fun e w' => e = .returned (.string ⟨TA.toArray⟩) ∧ Below w.heap.size w w')) (_ : Hid (TH.length ≤ 200 ∧ ∀ w : World, Tabs w → Calls Tryz.prog 87 #[.agg #[.bool hS, .int .i64 hH, .int .i64 hL]] w fun e w' => e = .returned (.string ⟨TH.toArray⟩) ∧ Below w.heap.size w w')) (y : World) (ht : Tabs y) :
    Calls Tryz.prog 61 #[.iface 141 (.agg #[.int .i64 n])] y fun e w' => ∃ a c, e = .returned (.slice a 1 c) ∧ OwnG KF 106 w' y.heap.size (.slice a 1 c) [((fT ⟨#[110, 111, 119]⟩ n), (rB 0 n 1000000000))] ∧ Below y.heap.size y w' := by
  have HT := hidP ht
  clear ht
  have a1 : ∀ w : World, (Instr.typeAssert (.iface 141 (.agg #[.int .i64 n])) 80 114 true).run Tryz.prog w = .ok (.tuple #[.agg #[.int .i64 0], .bool false]) w := fun _ => by kernel_rfl
  have a2 : ∀ w : World, (Instr.typeAssert (.iface 141 (.agg #[.int .i64 n])) 80 116 true).run Tryz.prog w = .ok (.tuple #[.agg #[.int .i64 0, .int .i64 0], .bool false]) w := fun _ => by kernel_rfl
  have a3 : ∀ w : World, (Instr.typeAssert (.iface 141 (.agg #[.int .i64 n])) 80 123 true).run Tryz.prog w = .ok (.tuple #[.agg #[.int .i64 0, .int .i64 0, .int .i64 0, .bool false, .int .i64 0, .int .i64 0, .int .i64 0, .int .i64 0], .bool false]) w := fun _ => by kernel_rfl
  have a4 : ∀ w : World, (Instr.typeAssert (.iface 141 (.agg #[.int .i64 n])) 80 125 true).run Tryz.prog w = .ok (.tuple #[.agg #[.int .i64 0, .int .i64 0, .int .i64 0, .bool false, .int .i64 0, .int .i64 0, .int .i64 0], .bool false]) w := fun _ => by kernel_rfl
  have a5 : ∀ w : World, (Instr.typeAssert (.iface 141 (.agg #[.int .i64 n])) 80 129 true).run Tryz.prog w = .ok (.tuple #[.agg #[.int .i64 0, .int .i64 0, .int .i64 0, .bool false, .int .i64 0, .int .i64 0, .int .i64 0, .string ⟨#[]⟩], .bool false]) w := fun _ => by kernel_rfl
  have a6 : ∀ w : World, (Instr.typeAssert (.iface 141 (.agg #[.int .i64 n])) 80 130 true).run Tryz.prog w = .ok (.tuple #[.agg #[.int .i64 0, .int .i64 0, .int .i64 0, .bool false, .int .i64 0, .int .i64 0, .int .i64 0, .string ⟨#[]⟩], .bool false]) w := fun _ => by kernel_rfl
  have a7 : ∀ w : World, (Instr.typeAssert (.iface 141 (.agg #[.int .i64 n])) 80 132 true).run Tryz.prog w = .ok (.tuple #[.agg #[.int .i64 0, .int .i64 0, .int .i64 0, .bool false, .int .i64 0, .int .i64 0, .int .i64 0, .string ⟨#[]⟩, .int .i64 0], .bool false]) w := fun _ => by kernel_rfl
  have a8 : ∀ w : World, (Instr.typeAssert (.iface 141 (.agg #[.int .i64 n])) 80 136 true).run Tryz.prog w = .ok (.tuple #[.agg #[.int .i64 0, .int .i64 0, .int .i64 0, .bool false, .int .i64 0, .int .i64 0, .string ⟨#[]⟩, .int .i64 0], .bool false]) w := fun _ => by kernel_rfl
  have a9 : ∀ w : World, (Instr.typeAssert (.iface 141 (.agg #[.int .i64 n])) 80 138 true).run Tryz.prog w = .ok (.tuple #[.agg #[.int .i64 0, .int .i64 0, .int .i64 0, .bool false, .int .i64 0, .int .i64 0, .int .i64 0, .int .i64 0], .bool false]) w := fun _ => by kernel_rfl
  have a10 : ∀ w : World, (Instr.typeAssert (.iface 141 (.agg #[.int .i64 n])) 80 140 true).run Tryz.prog w = .ok (.tuple #[.agg #[.int .i64 0, .int .i64 0, .int .i64 0, .bool false, .int .i64 0, .int .i64 0, .int .i64 0], .bool false]) w := fun _ => by kernel_rfl
  have a11 : ∀ w : World, (Instr.typeAssert (.iface 141 (.agg #[.int .i64 n])) 80 141 true).run Tryz.prog w = .ok (.tuple #[.agg #[.int .i64 n], .bool true]) w := fun _ => by kernel_rfl
  have CN := hidP (fun w (h : Tabs w) => nowField_any n HI.out.n w h)
  generalize fT ⟨#[110, 111, 119]⟩ n = TN at *
  generalize rB 0 n 1000000000 = rN at *
  clear HI
  go_enter Tryz.func61, Tryz.ntmps61
  go_wp2_with fail
  have u0 : (y.alloc (.cells #[.int .i64 n] 141)).cell? ⟨y.heap.size, 0, none⟩ = some (.int .i64 n) := by simp [go_sem]
  have uL : y.heap.size < (y.alloc (.cells #[.int .i64 n] 141)).heap.size := by simp
  have HU := hidP ((Below.refl y.heap.size y).alloc (Nat.le_refl _) (.cells #[.int .i64 n] 141))
  generalize y.alloc (.cells #[.int .i64 n] 141) = W1 at *
  have hU := HU.out.size
  refine (CN.out _ (HT.out.below HU.out)).mono ?_
  rintro e w2 ⟨rfl, hb2⟩
  have h2 := hb2.size
  have HB2 := hidP (HU.out.trans (hb2.mono hU))
  have HO := hidP (own_manyG KF w2 y.heap.size 106 [(TN, rN)] #[.string TN, .bool rN] rfl 1 rfl (by omega) (by omega))
  go_wp2_with fail
  go_ret
  exact ⟨_, _, rfl, HO.out, HB2.out.alloc (by omega) _⟩

end Go.Proofs.YtnchndcanhmbeaaGreatDoor
namespace Go.Proofs.YtnchndcanhmbeaaGreatDoor
open Go.RowKit

set_option maxRecDepth 10000 in
set_option maxHeartbeats 4000000 in
theorem oo_5 (p : Nat) (s q n : Int) (aS : Bool) (aH aL ab b : Int) (hS : Bool) (hH hL : Int) (o : ByteArray) (t sp : Int) (x : World) (h : Bx x p [.int .i64 5, .int .i64 s, .int .i64 q, .int .i64 n, .bool aS, .int .i64 aH, .int .i64 aL, .int .i64 ab, .int .i64 b, .bool hS, .int .i64 hH, .int .i64 hL, .string o, .int .i64 t, .int .i64 sp]) :
    Calls Tryz.prog 60 #[.pointer (some ⟨p, 0, none⟩)] x fun e w' => e = .returned (.iface 129 (.agg #[.int .i64 s, .int .i64 q, .int .i64 n, .bool aS, .int .i64 aH, .int .i64 aL, .int .i64 ab, .string o])) ∧ Bx w' p [.int .i64 0, .int .i64 0, .int .i64 0, .int .i64 0, .bool false, .int .i64 0, .int .i64 0, .int .i64 0, .int .i64 b, .bool hS, .int .i64 hH, .int .i64 hL, .string ⟨#[]⟩, .int .i64 t, .int .i64 sp] ∧ Kp p x w' := by
  have hLt := h.lt
  have HX := hidP h
  clear h
  go_enter Tryz.func60, Tryz.ntmps60
  go_wp2_with (first | (go_at_call_of 68 (Value.pointer (some (⟨p, 0, none⟩ : Addr))); refine (takeI p 0 [.int .i64 5, .int .i64 s, .int .i64 q, .int .i64 n, .bool aS, .int .i64 aH, .int .i64 aL, .int .i64 ab, .int .i64 b, .bool hS, .int .i64 hH, .int .i64 hL, .string o, .int .i64 t, .int .i64 sp] (5) _ (by repeat (first | with_reducible exact HX.out | (with_reducible refine Bx.drew ?_) | (with_reducible refine Bx.alloc ?_ _))) rfl).mono ?_; rintro e w1 ⟨rfl, hx1, hk1⟩; have HX1 : Hid (Bx w1 p [.int .i64 0, .int .i64 s, .int .i64 q, .int .i64 n, .bool aS, .int .i64 aH, .int .i64 aL, .int .i64 ab, .int .i64 b, .bool hS, .int .i64 hH, .int .i64 hL, .string o, .int .i64 t, .int .i64 sp]) := hidP hx1; have HK1 := hidP hk1;  clear hx1 hk1))
  go_region_with (first | (go_at_call_of 69 (Value.pointer (some (⟨p, 0, none⟩ : Addr))); refine (reqOut p 0 s q n aS aH aL ab b hS hH hL o t sp _ (by repeat (first | with_reducible exact HX.out | with_reducible exact HX1.out | (with_reducible refine Bx.drew ?_) | (with_reducible refine Bx.alloc ?_ _)))).mono ?_; rintro e w2 ⟨rfl, hx2, hk2⟩; have HX2 : Hid (Bx w2 p [.int .i64 0, .int .i64 0, .int .i64 0, .int .i64 0, .bool aS, .int .i64 aH, .int .i64 aL, .int .i64 ab, .int .i64 b, .bool hS, .int .i64 hH, .int .i64 hL, .string o, .int .i64 t, .int .i64 sp]) := hidP hx2; have HK2 := hidP hk2;  clear hx2 hk2) | (go_at_call_of 70 (Value.pointer (some (⟨p, 4, none⟩ : Addr))); refine (takeP p 4 [.int .i64 0, .int .i64 0, .int .i64 0, .int .i64 0, .bool aS, .int .i64 aH, .int .i64 aL, .int .i64 ab, .int .i64 b, .bool hS, .int .i64 hH, .int .i64 hL, .string o, .int .i64 t, .int .i64 sp] aS aH aL ab _ (by repeat (first | with_reducible exact HX.out | with_reducible exact HX1.out | with_reducible exact HX2.out | (with_reducible refine Bx.drew ?_) | (with_reducible refine Bx.alloc ?_ _))) rfl rfl rfl rfl).mono ?_; rintro e w3 ⟨rfl, hx3, hk3⟩; have HX3 : Hid (Bx w3 p [.int .i64 0, .int .i64 0, .int .i64 0, .int .i64 0, .bool false, .int .i64 0, .int .i64 0, .int .i64 0, .int .i64 b, .bool hS, .int .i64 hH, .int .i64 hL, .string o, .int .i64 t, .int .i64 sp]) := hidP hx3; have HK3 := hidP hk3;  clear hx3 hk3) | (go_at_call_of 71 (Value.pointer (some (⟨p, 12, none⟩ : Addr))); refine (takeS p 12 [.int .i64 0, .int .i64 0, .int .i64 0, .int .i64 0, .bool false, .int .i64 0, .int .i64 0, .int .i64 0, .int .i64 b, .bool hS, .int .i64 hH, .int .i64 hL, .string o, .int .i64 t, .int .i64 sp] o _ (by repeat (first | with_reducible exact HX.out | with_reducible exact HX1.out | with_reducible exact HX2.out | with_reducible exact HX3.out | (with_reducible refine Bx.drew ?_) | (with_reducible refine Bx.alloc ?_ _))) rfl).mono ?_; rintro e w4 ⟨rfl, hx4, hk4⟩; have HX4 : Hid (Bx w4 p [.int .i64 0, .int .i64 0, .int .i64 0, .int .i64 0, .bool false, .int .i64 0, .int .i64 0, .int .i64 0, .int .i64 b, .bool hS, .int .i64 hH, .int .i64 hL, .string ⟨#[]⟩, .int .i64 t, .int .i64 sp]) := hidP hx4; have HK4 := hidP hk4;  clear hx4 hk4))
  all_goals
    go_wp2_with fail
    go_ret
    refine ⟨rfl, HX4.out, ?_⟩
    repeat (first | with_reducible exact Kp.refl _ _ | (with_reducible refine Kp.trans ?_ HK4.out) | (with_reducible refine Kp.trans ?_ HK3.out) | (with_reducible refine Kp.trans ?_ HK2.out) | (with_reducible refine Kp.trans ?_ HK1.out) | (with_reducible refine Kp.more ?_ (by omega) _) | (with_reducible refine Kp.trans ?_ (Kp.drew _ _)) | (with_reducible refine Kp.setNew ?_ (by omega) (by first | omega | (simp; done) | (simp; omega)) _))

set_option maxRecDepth 10000 in
set_option maxHeartbeats 4000000 in
theorem oo_6 (p : Nat) (s q n : Int) (aS : Bool) (aH aL ab b : Int) (hS : Bool) (hH hL : Int) (o : ByteArray) (t sp : Int) (x : World) (h : Bx x p [.int .i64 6, .int .i64 s, .int .i64 q, .int .i64 n, .bool aS, .int .i64 aH, .int .i64 aL, .int .i64 ab, .int .i64 b, .bool hS, .int .i64 hH, .int .i64 hL, .string o, .int .i64 t, .int .i64 sp]) :
    Calls Tryz.prog 60 #[.pointer (some ⟨p, 0, none⟩)] x fun e w' => e = .returned (.iface 130 (.agg #[.int .i64 s, .int .i64 q, .int .i64 n, .bool aS, .int .i64 aH, .int .i64 aL, .int .i64 ab, .string o])) ∧ Bx w' p [.int .i64 0, .int .i64 0, .int .i64 0, .int .i64 0, .bool false, .int .i64 0, .int .i64 0, .int .i64 0, .int .i64 b, .bool hS, .int .i64 hH, .int .i64 hL, .string ⟨#[]⟩, .int .i64 t, .int .i64 sp] ∧ Kp p x w' := by
  have hLt := h.lt
  have HX := hidP h
  clear h
  go_enter Tryz.func60, Tryz.ntmps60
  go_wp2_with (first | (go_at_call_of 68 (Value.pointer (some (⟨p, 0, none⟩ : Addr))); refine (takeI p 0 [.int .i64 6, .int .i64 s, .int .i64 q, .int .i64 n, .bool aS, .int .i64 aH, .int .i64 aL, .int .i64 ab, .int .i64 b, .bool hS, .int .i64 hH, .int .i64 hL, .string o, .int .i64 t, .int .i64 sp] (6) _ (by repeat (first | with_reducible exact HX.out | (with_reducible refine Bx.drew ?_) | (with_reducible refine Bx.alloc ?_ _))) rfl).mono ?_; rintro e w1 ⟨rfl, hx1, hk1⟩; have HX1 : Hid (Bx w1 p [.int .i64 0, .int .i64 s, .int .i64 q, .int .i64 n, .bool aS, .int .i64 aH, .int .i64 aL, .int .i64 ab, .int .i64 b, .bool hS, .int .i64 hH, .int .i64 hL, .string o, .int .i64 t, .int .i64 sp]) := hidP hx1; have HK1 := hidP hk1;  clear hx1 hk1))
  go_region_with (first | (go_at_call_of 69 (Value.pointer (some (⟨p, 0, none⟩ : Addr))); refine (reqOut p 0 s q n aS aH aL ab b hS hH hL o t sp _ (by repeat (first | with_reducible exact HX.out | with_reducible exact HX1.out | (with_reducible refine Bx.drew ?_) | (with_reducible refine Bx.alloc ?_ _)))).mono ?_; rintro e w2 ⟨rfl, hx2, hk2⟩; have HX2 : Hid (Bx w2 p [.int .i64 0, .int .i64 0, .int .i64 0, .int .i64 0, .bool aS, .int .i64 aH, .int .i64 aL, .int .i64 ab, .int .i64 b, .bool hS, .int .i64 hH, .int .i64 hL, .string o, .int .i64 t, .int .i64 sp]) := hidP hx2; have HK2 := hidP hk2;  clear hx2 hk2) | (go_at_call_of 70 (Value.pointer (some (⟨p, 4, none⟩ : Addr))); refine (takeP p 4 [.int .i64 0, .int .i64 0, .int .i64 0, .int .i64 0, .bool aS, .int .i64 aH, .int .i64 aL, .int .i64 ab, .int .i64 b, .bool hS, .int .i64 hH, .int .i64 hL, .string o, .int .i64 t, .int .i64 sp] aS aH aL ab _ (by repeat (first | with_reducible exact HX.out | with_reducible exact HX1.out | with_reducible exact HX2.out | (with_reducible refine Bx.drew ?_) | (with_reducible refine Bx.alloc ?_ _))) rfl rfl rfl rfl).mono ?_; rintro e w3 ⟨rfl, hx3, hk3⟩; have HX3 : Hid (Bx w3 p [.int .i64 0, .int .i64 0, .int .i64 0, .int .i64 0, .bool false, .int .i64 0, .int .i64 0, .int .i64 0, .int .i64 b, .bool hS, .int .i64 hH, .int .i64 hL, .string o, .int .i64 t, .int .i64 sp]) := hidP hx3; have HK3 := hidP hk3;  clear hx3 hk3) | (go_at_call_of 71 (Value.pointer (some (⟨p, 12, none⟩ : Addr))); refine (takeS p 12 [.int .i64 0, .int .i64 0, .int .i64 0, .int .i64 0, .bool false, .int .i64 0, .int .i64 0, .int .i64 0, .int .i64 b, .bool hS, .int .i64 hH, .int .i64 hL, .string o, .int .i64 t, .int .i64 sp] o _ (by repeat (first | with_reducible exact HX.out | with_reducible exact HX1.out | with_reducible exact HX2.out | with_reducible exact HX3.out | (with_reducible refine Bx.drew ?_) | (with_reducible refine Bx.alloc ?_ _))) rfl).mono ?_; rintro e w4 ⟨rfl, hx4, hk4⟩; have HX4 : Hid (Bx w4 p [.int .i64 0, .int .i64 0, .int .i64 0, .int .i64 0, .bool false, .int .i64 0, .int .i64 0, .int .i64 0, .int .i64 b, .bool hS, .int .i64 hH, .int .i64 hL, .string ⟨#[]⟩, .int .i64 t, .int .i64 sp]) := hidP hx4; have HK4 := hidP hk4;  clear hx4 hk4))
  all_goals
    go_wp2_with fail
    go_ret
    refine ⟨rfl, HX4.out, ?_⟩
    repeat (first | with_reducible exact Kp.refl _ _ | (with_reducible refine Kp.trans ?_ HK4.out) | (with_reducible refine Kp.trans ?_ HK3.out) | (with_reducible refine Kp.trans ?_ HK2.out) | (with_reducible refine Kp.trans ?_ HK1.out) | (with_reducible refine Kp.more ?_ (by omega) _) | (with_reducible refine Kp.trans ?_ (Kp.drew _ _)) | (with_reducible refine Kp.setNew ?_ (by omega) (by first | omega | (simp; done) | (simp; omega)) _))

set_option maxRecDepth 10000 in
set_option maxHeartbeats 4000000 in
theorem oo_7 (p : Nat) (s q n : Int) (aS : Bool) (aH aL ab b : Int) (hS : Bool) (hH hL : Int) (o : ByteArray) (t sp : Int) (x : World) (h : Bx x p [.int .i64 7, .int .i64 s, .int .i64 q, .int .i64 n, .bool aS, .int .i64 aH, .int .i64 aL, .int .i64 ab, .int .i64 b, .bool hS, .int .i64 hH, .int .i64 hL, .string o, .int .i64 t, .int .i64 sp]) :
    Calls Tryz.prog 60 #[.pointer (some ⟨p, 0, none⟩)] x fun e w' => e = .returned (.iface 132 (.agg #[.int .i64 s, .int .i64 q, .int .i64 n, .bool aS, .int .i64 aH, .int .i64 aL, .int .i64 ab, .string o, .int .i64 sp])) ∧ Bx w' p [.int .i64 0, .int .i64 0, .int .i64 0, .int .i64 0, .bool false, .int .i64 0, .int .i64 0, .int .i64 0, .int .i64 b, .bool hS, .int .i64 hH, .int .i64 hL, .string ⟨#[]⟩, .int .i64 t, .int .i64 0] ∧ Kp p x w' := by
  have hLt := h.lt
  have HX := hidP h
  clear h
  go_enter Tryz.func60, Tryz.ntmps60
  go_wp2_with (first | (go_at_call_of 68 (Value.pointer (some (⟨p, 0, none⟩ : Addr))); refine (takeI p 0 [.int .i64 7, .int .i64 s, .int .i64 q, .int .i64 n, .bool aS, .int .i64 aH, .int .i64 aL, .int .i64 ab, .int .i64 b, .bool hS, .int .i64 hH, .int .i64 hL, .string o, .int .i64 t, .int .i64 sp] (7) _ (by repeat (first | with_reducible exact HX.out | (with_reducible refine Bx.drew ?_) | (with_reducible refine Bx.alloc ?_ _))) rfl).mono ?_; rintro e w1 ⟨rfl, hx1, hk1⟩; have HX1 : Hid (Bx w1 p [.int .i64 0, .int .i64 s, .int .i64 q, .int .i64 n, .bool aS, .int .i64 aH, .int .i64 aL, .int .i64 ab, .int .i64 b, .bool hS, .int .i64 hH, .int .i64 hL, .string o, .int .i64 t, .int .i64 sp]) := hidP hx1; have HK1 := hidP hk1;  clear hx1 hk1))
  go_region_with (first | (go_at_call_of 69 (Value.pointer (some (⟨p, 0, none⟩ : Addr))); refine (reqOut p 0 s q n aS aH aL ab b hS hH hL o t sp _ (by repeat (first | with_reducible exact HX.out | with_reducible exact HX1.out | (with_reducible refine Bx.drew ?_) | (with_reducible refine Bx.alloc ?_ _)))).mono ?_; rintro e w2 ⟨rfl, hx2, hk2⟩; have HX2 : Hid (Bx w2 p [.int .i64 0, .int .i64 0, .int .i64 0, .int .i64 0, .bool aS, .int .i64 aH, .int .i64 aL, .int .i64 ab, .int .i64 b, .bool hS, .int .i64 hH, .int .i64 hL, .string o, .int .i64 t, .int .i64 sp]) := hidP hx2; have HK2 := hidP hk2;  clear hx2 hk2) | (go_at_call_of 70 (Value.pointer (some (⟨p, 4, none⟩ : Addr))); refine (takeP p 4 [.int .i64 0, .int .i64 0, .int .i64 0, .int .i64 0, .bool aS, .int .i64 aH, .int .i64 aL, .int .i64 ab, .int .i64 b, .bool hS, .int .i64 hH, .int .i64 hL, .string o, .int .i64 t, .int .i64 sp] aS aH aL ab _ (by repeat (first | with_reducible exact HX.out | with_reducible exact HX1.out | with_reducible exact HX2.out | (with_reducible refine Bx.drew ?_) | (with_reducible refine Bx.alloc ?_ _))) rfl rfl rfl rfl).mono ?_; rintro e w3 ⟨rfl, hx3, hk3⟩; have HX3 : Hid (Bx w3 p [.int .i64 0, .int .i64 0, .int .i64 0, .int .i64 0, .bool false, .int .i64 0, .int .i64 0, .int .i64 0, .int .i64 b, .bool hS, .int .i64 hH, .int .i64 hL, .string o, .int .i64 t, .int .i64 sp]) := hidP hx3; have HK3 := hidP hk3;  clear hx3 hk3) | (go_at_call_of 71 (Value.pointer (some (⟨p, 12, none⟩ : Addr))); refine (takeS p 12 [.int .i64 0, .int .i64 0, .int .i64 0, .int .i64 0, .bool false, .int .i64 0, .int .i64 0, .int .i64 0, .int .i64 b, .bool hS, .int .i64 hH, .int .i64 hL, .string o, .int .i64 t, .int .i64 sp] o _ (by repeat (first | with_reducible exact HX.out | with_reducible exact HX1.out | with_reducible exact HX2.out | with_reducible exact HX3.out | (with_reducible refine Bx.drew ?_) | (with_reducible refine Bx.alloc ?_ _))) rfl).mono ?_; rintro e w4 ⟨rfl, hx4, hk4⟩; have HX4 : Hid (Bx w4 p [.int .i64 0, .int .i64 0, .int .i64 0, .int .i64 0, .bool false, .int .i64 0, .int .i64 0, .int .i64 0, .int .i64 b, .bool hS, .int .i64 hH, .int .i64 hL, .string ⟨#[]⟩, .int .i64 t, .int .i64 sp]) := hidP hx4; have HK4 := hidP hk4;  clear hx4 hk4) | (go_at_call_of 68 (Value.pointer (some (⟨p, 14, none⟩ : Addr))); refine (takeI p 14 [.int .i64 0, .int .i64 0, .int .i64 0, .int .i64 0, .bool false, .int .i64 0, .int .i64 0, .int .i64 0, .int .i64 b, .bool hS, .int .i64 hH, .int .i64 hL, .string ⟨#[]⟩, .int .i64 t, .int .i64 sp] (sp) _ (by repeat (first | with_reducible exact HX.out | with_reducible exact HX1.out | with_reducible exact HX2.out | with_reducible exact HX3.out | with_reducible exact HX4.out | (with_reducible refine Bx.drew ?_) | (with_reducible refine Bx.alloc ?_ _))) rfl).mono ?_; rintro e w5 ⟨rfl, hx5, hk5⟩; have HX5 : Hid (Bx w5 p [.int .i64 0, .int .i64 0, .int .i64 0, .int .i64 0, .bool false, .int .i64 0, .int .i64 0, .int .i64 0, .int .i64 b, .bool hS, .int .i64 hH, .int .i64 hL, .string ⟨#[]⟩, .int .i64 t, .int .i64 0]) := hidP hx5; have HK5 := hidP hk5;  clear hx5 hk5))
  all_goals
    go_wp2_with fail
    go_ret
    refine ⟨rfl, HX5.out, ?_⟩
    repeat (first | with_reducible exact Kp.refl _ _ | (with_reducible refine Kp.trans ?_ HK5.out) | (with_reducible refine Kp.trans ?_ HK4.out) | (with_reducible refine Kp.trans ?_ HK3.out) | (with_reducible refine Kp.trans ?_ HK2.out) | (with_reducible refine Kp.trans ?_ HK1.out) | (with_reducible refine Kp.more ?_ (by omega) _) | (with_reducible refine Kp.trans ?_ (Kp.drew _ _)) | (with_reducible refine Kp.setNew ?_ (by omega) (by first | omega | (simp; done) | (simp; omega)) _))

end Go.Proofs.YtnchndcanhmbeaaGreatDoor
namespace Go.Proofs.YtnchndcanhmbeaaGreatDoor
open Go.RowKit

set_option maxRecDepth 10000 in
set_option maxHeartbeats 4000000 in
theorem ro_5 (s q n : Int) (aS : Bool) (aH aL : BitVec 64) (ab b : Int) (hS : Bool) (hH hL : Int) (o : ByteArray) (t sp : Int) (TA TH : List UInt8) (HI : Hid (CmI s q n b t sp o)) (HTA : Hid (TA.length ≤ 200 ∧ ∀ w : World, Tabs w → Calls Tryz.prog 84 #[.agg #[.bool aS, .int .i64 aH.toInt, .int .i64 aL.toInt, .int .i64 ab]] w fun e w' => e = .returned (.string ⟨TA.toArray⟩) ∧ Below w.heap.size w w')) (HTH : Hid (TH.length ≤ 200 ∧ ∀ w : World, Tabs w → Calls Tryz.prog 87 #[.agg #[.bool hS, .int .i64 hH, .int .i64 hL]] w fun e w' => e = .returned (.string ⟨TH.toArray⟩) ∧ Below w.heap.size w w')) (y : World) (ht : Tabs y) :
    Calls Tryz.prog 47 #[.agg #[.int .i64 5, .int .i64 s, .int .i64 q, .int .i64 n, .bool aS, .int .i64 aH.toInt, .int .i64 aL.toInt, .int .i64 ab, .int .i64 b, .bool hS, .int .i64 hH, .int .i64 hL, .string o, .int .i64 t, .int .i64 sp]] y fun e w' => (((zCm (0) (0) (0) (0) (false) (0) (0) (0) (b) (hS) (hH) (hL) (⟨#[]⟩) (t) (sp) && [((fT ⟨#[115, 101, 115, 115, 105, 111, 110]⟩ s), (rB 1 s 1000000)), ((fT ⟨#[115, 101, 113]⟩ q), (rB 1 q 1000000)), ((fT ⟨#[110, 111, 119]⟩ n), (rB 0 n 1000000000)), ((aT TA), (pokB aS aH aL ab)), ((oT o), (ownB o))].all (fun z => z.2)) = true ∧ e = .returned (.tuple #[.iface 129 (.agg #[.int .i64 s, .int .i64 q, .int .i64 n, .bool aS, .int .i64 aH.toInt, .int .i64 aL.toInt, .int .i64 ab, .string o]), .bool true])) ∨ ((zCm (0) (0) (0) (0) (false) (0) (0) (0) (b) (hS) (hH) (hL) (⟨#[]⟩) (t) (sp) && [((fT ⟨#[115, 101, 115, 115, 105, 111, 110]⟩ s), (rB 1 s 1000000)), ((fT ⟨#[115, 101, 113]⟩ q), (rB 1 q 1000000)), ((fT ⟨#[110, 111, 119]⟩ n), (rB 0 n 1000000000)), ((aT TA), (pokB aS aH aL ab)), ((oT o), (ownB o))].all (fun z => z.2)) = false ∧ e = .returned (.tuple #[.nilIface, .bool false]))) ∧ Below y.heap.size y w' := by
  have HT := hidP ht
  have HFO := hidP (fun w (h : Tabs w) => fo_5 s q n aS aH aL ab b hS hH hL o t sp TA TH HI HTA HTH w h)
  have hlen : [((fT ⟨#[115, 101, 115, 115, 105, 111, 110]⟩ s), (rB 1 s 1000000)), ((fT ⟨#[115, 101, 113]⟩ q), (rB 1 q 1000000)), ((fT ⟨#[110, 111, 119]⟩ n), (rB 0 n 1000000000)), ((aT TA), (pokB aS aH aL ab)), ((oT o), (ownB o))].length = 5 := rfl
  generalize [((fT ⟨#[115, 101, 115, 115, 105, 111, 110]⟩ s), (rB 1 s 1000000)), ((fT ⟨#[115, 101, 113]⟩ q), (rB 1 q 1000000)), ((fT ⟨#[110, 111, 119]⟩ n), (rB 0 n 1000000000)), ((aT TA), (pokB aS aH aL ab)), ((oT o), (ownB o))] = fl at *
  have HL := hidP hlen
  obtain ⟨R, hR⟩ : ∃ R : Bool, R = (zCm (0) (0) (0) (0) (false) (0) (0) (0) (b) (hS) (hH) (hL) (⟨#[]⟩) (t) (sp) && fl.all (fun z => z.2)) := ⟨_, rfl⟩
  rw [← hR]
  have HR0 := hidP hR
  clear hR
  clear ht hlen HI HTA HTH
  go_enter Tryz.func47, Tryz.ntmps47
  go_wp2_with fail
  have HX0 := hidP (Bx.new y [.int .i64 5, .int .i64 s, .int .i64 q, .int .i64 n, .bool aS, .int .i64 aH.toInt, .int .i64 aL.toInt, .int .i64 ab, .int .i64 b, .bool hS, .int .i64 hH, .int .i64 hL, .string o, .int .i64 t, .int .i64 sp] 35)
  have HU := hidP ((Below.refl y.heap.size y).alloc (Nat.le_refl _) (.cells #[.int .i64 5, .int .i64 s, .int .i64 q, .int .i64 n, .bool aS, .int .i64 aH.toInt, .int .i64 aL.toInt, .int .i64 ab, .int .i64 b, .bool hS, .int .i64 hH, .int .i64 hL, .string o, .int .i64 t, .int .i64 sp] 35))
  refine (oo_5 y.heap.size s q n aS aH.toInt aL.toInt ab b hS hH hL o t sp _ HX0.out).mono ?_
  rintro e w1 ⟨rfl, hx, hk⟩
  have c0 := hx.cel 0 _ rfl
  have c1 := hx.cel 1 _ rfl
  have c2 := hx.cel 2 _ rfl
  have c3 := hx.cel 3 _ rfl
  have c4 := hx.cel 4 _ rfl
  have c5 := hx.cel 5 _ rfl
  have c6 := hx.cel 6 _ rfl
  have c7 := hx.cel 7 _ rfl
  have c8 := hx.cel 8 _ rfl
  have c9 := hx.cel 9 _ rfl
  have c10 := hx.cel 10 _ rfl
  have c11 := hx.cel 11 _ rfl
  have c12 := hx.cel 12 _ rfl
  have c13 := hx.cel 13 _ rfl
  have c14 := hx.cel 14 _ rfl
  have HB1 := hidP (HU.out.trans hk.low)
  have h1 : y.heap.size ≤ w1.heap.size := HB1.out.size
  have hq := eqCm (0) (0) (0) (0) (false) (0) (0) (0) (b) (hS) (hH) (hL) (⟨#[]⟩) (t) (sp)
  clear hx hk HX0 HU
  generalize zCm (0) (0) (0) (0) (false) (0) (0) (0) (b) (hS) (hH) (hL) (⟨#[]⟩) (t) (sp) = Z at *
  cases Z
  · have HR : Hid ((false && fl.all (fun z => z.2)) = false) := hidP rfl
    go_wp2_with fail
    go_ret2
    exact ⟨Or.inr ⟨by rw [HR0.out]; exact HR.out, rfl⟩, HB1.out⟩
  · go_wp2_with fail
    refine (HFO.out _ (HT.out.below HB1.out)).mono ?_
    rintro e w2 ⟨a, c, rfl, ho, hb2⟩
    have HB2 := hidP (HB1.out.trans (hb2.mono h1))
    have h2 := HB2.out.size
    have HRow := hidP ho.row
    clear hb2 ho c0 c1 c2 c3 c4 c5 c6 c7 c8 c9 c10 c11 c12 c13 c14 hq
    go_wp2_with fail
    go_loopw [18] (fun t18 x => ∃ k : Nat, k ≤ 5 ∧ t18 = .int .i64 k ∧ Hid ((fl.take k).all (fun z => z.2) = true) ∧ Hid (Below w2.heap.size w2 x)) (fun t18 _ => 5 - (intOf t18).toNat)
    case atStart => exact ⟨0, by omega, rfl, hidP (by simp), hidP (Below.refl _ _)⟩
    case round =>
      obtain ⟨k, hk, rfl, HA, HB⟩ := hrel
      have h3 := HB.out.size
      by_cases hlt : k < 5
      · obtain ⟨p, o', z, rfl, hp, hz, d0, d1⟩ := rowF HRow.out k (by rw [HL.out]; exact hlt)
        have e0 := (HB.out.cell hp).trans d0
        have e1 := (HB.out.cell hp).trans d1
        have hlt' : (k : Int) < 5 := by omega
        have HS := hidP (all_snoc hz)
        have HN := hidP (all_not hz)
        clear d0 d1 hz
        obtain ⟨zt, zf⟩ := z
        cases zf
        · have HR : Hid ((true && fl.all (fun z => z.2)) = false) := hidP (by rw [Bool.true_and]; exact HN.out rfl)
          go_wp2_with fail
          go_ret2
          exact ⟨Or.inr ⟨by rw [HR0.out]; exact HR.out, rfl⟩, (HB2.out.trans (HB.out.mono h2)).alloc (by omega) _⟩
        · go_wp2_with fail
          go_roundw
          case rel => exact ⟨k + 1, by omega, by go_num, hidP (by rw [HS.out, HA.out]; rfl), hidP (HB.out.alloc h3 _)⟩
          case measure => simp [intOf]; omega
      · have HR : Hid ((true && fl.all (fun z => z.2)) = true) := hidP (by rw [Bool.true_and]; have := HA.out; rw [List.take_of_length_le (by rw [HL.out]; omega)] at this; exact this)
        have hkn : k = 5 := by omega
        subst hkn
        go_wp2_with fail
        go_ret2
        exact ⟨Or.inl ⟨by rw [HR0.out]; exact HR.out, rfl⟩, HB2.out.trans (HB.out.mono h2)⟩

set_option maxRecDepth 10000 in
set_option maxHeartbeats 4000000 in
theorem ro_6 (s q n : Int) (aS : Bool) (aH aL : BitVec 64) (ab b : Int) (hS : Bool) (hH hL : Int) (o : ByteArray) (t sp : Int) (TA TH : List UInt8) (HI : Hid (CmI s q n b t sp o)) (HTA : Hid (TA.length ≤ 200 ∧ ∀ w : World, Tabs w → Calls Tryz.prog 84 #[.agg #[.bool aS, .int .i64 aH.toInt, .int .i64 aL.toInt, .int .i64 ab]] w fun e w' => e = .returned (.string ⟨TA.toArray⟩) ∧ Below w.heap.size w w')) (HTH : Hid (TH.length ≤ 200 ∧ ∀ w : World, Tabs w → Calls Tryz.prog 87 #[.agg #[.bool hS, .int .i64 hH, .int .i64 hL]] w fun e w' => e = .returned (.string ⟨TH.toArray⟩) ∧ Below w.heap.size w w')) (y : World) (ht : Tabs y) :
    Calls Tryz.prog 47 #[.agg #[.int .i64 6, .int .i64 s, .int .i64 q, .int .i64 n, .bool aS, .int .i64 aH.toInt, .int .i64 aL.toInt, .int .i64 ab, .int .i64 b, .bool hS, .int .i64 hH, .int .i64 hL, .string o, .int .i64 t, .int .i64 sp]] y fun e w' => (((zCm (0) (0) (0) (0) (false) (0) (0) (0) (b) (hS) (hH) (hL) (⟨#[]⟩) (t) (sp) && [((fT ⟨#[115, 101, 115, 115, 105, 111, 110]⟩ s), (rB 1 s 1000000)), ((fT ⟨#[115, 101, 113]⟩ q), (rB 1 q 1000000)), ((fT ⟨#[110, 111, 119]⟩ n), (rB 0 n 1000000000)), ((aT TA), (pokB aS aH aL ab)), ((oT o), (ownB o))].all (fun z => z.2)) = true ∧ e = .returned (.tuple #[.iface 130 (.agg #[.int .i64 s, .int .i64 q, .int .i64 n, .bool aS, .int .i64 aH.toInt, .int .i64 aL.toInt, .int .i64 ab, .string o]), .bool true])) ∨ ((zCm (0) (0) (0) (0) (false) (0) (0) (0) (b) (hS) (hH) (hL) (⟨#[]⟩) (t) (sp) && [((fT ⟨#[115, 101, 115, 115, 105, 111, 110]⟩ s), (rB 1 s 1000000)), ((fT ⟨#[115, 101, 113]⟩ q), (rB 1 q 1000000)), ((fT ⟨#[110, 111, 119]⟩ n), (rB 0 n 1000000000)), ((aT TA), (pokB aS aH aL ab)), ((oT o), (ownB o))].all (fun z => z.2)) = false ∧ e = .returned (.tuple #[.nilIface, .bool false]))) ∧ Below y.heap.size y w' := by
  have HT := hidP ht
  have HFO := hidP (fun w (h : Tabs w) => fo_6 s q n aS aH aL ab b hS hH hL o t sp TA TH HI HTA HTH w h)
  have hlen : [((fT ⟨#[115, 101, 115, 115, 105, 111, 110]⟩ s), (rB 1 s 1000000)), ((fT ⟨#[115, 101, 113]⟩ q), (rB 1 q 1000000)), ((fT ⟨#[110, 111, 119]⟩ n), (rB 0 n 1000000000)), ((aT TA), (pokB aS aH aL ab)), ((oT o), (ownB o))].length = 5 := rfl
  generalize [((fT ⟨#[115, 101, 115, 115, 105, 111, 110]⟩ s), (rB 1 s 1000000)), ((fT ⟨#[115, 101, 113]⟩ q), (rB 1 q 1000000)), ((fT ⟨#[110, 111, 119]⟩ n), (rB 0 n 1000000000)), ((aT TA), (pokB aS aH aL ab)), ((oT o), (ownB o))] = fl at *
  have HL := hidP hlen
  obtain ⟨R, hR⟩ : ∃ R : Bool, R = (zCm (0) (0) (0) (0) (false) (0) (0) (0) (b) (hS) (hH) (hL) (⟨#[]⟩) (t) (sp) && fl.all (fun z => z.2)) := ⟨_, rfl⟩
  rw [← hR]
  have HR0 := hidP hR
  clear hR
  clear ht hlen HI HTA HTH
  go_enter Tryz.func47, Tryz.ntmps47
  go_wp2_with fail
  have HX0 := hidP (Bx.new y [.int .i64 6, .int .i64 s, .int .i64 q, .int .i64 n, .bool aS, .int .i64 aH.toInt, .int .i64 aL.toInt, .int .i64 ab, .int .i64 b, .bool hS, .int .i64 hH, .int .i64 hL, .string o, .int .i64 t, .int .i64 sp] 35)
  have HU := hidP ((Below.refl y.heap.size y).alloc (Nat.le_refl _) (.cells #[.int .i64 6, .int .i64 s, .int .i64 q, .int .i64 n, .bool aS, .int .i64 aH.toInt, .int .i64 aL.toInt, .int .i64 ab, .int .i64 b, .bool hS, .int .i64 hH, .int .i64 hL, .string o, .int .i64 t, .int .i64 sp] 35))
  refine (oo_6 y.heap.size s q n aS aH.toInt aL.toInt ab b hS hH hL o t sp _ HX0.out).mono ?_
  rintro e w1 ⟨rfl, hx, hk⟩
  have c0 := hx.cel 0 _ rfl
  have c1 := hx.cel 1 _ rfl
  have c2 := hx.cel 2 _ rfl
  have c3 := hx.cel 3 _ rfl
  have c4 := hx.cel 4 _ rfl
  have c5 := hx.cel 5 _ rfl
  have c6 := hx.cel 6 _ rfl
  have c7 := hx.cel 7 _ rfl
  have c8 := hx.cel 8 _ rfl
  have c9 := hx.cel 9 _ rfl
  have c10 := hx.cel 10 _ rfl
  have c11 := hx.cel 11 _ rfl
  have c12 := hx.cel 12 _ rfl
  have c13 := hx.cel 13 _ rfl
  have c14 := hx.cel 14 _ rfl
  have HB1 := hidP (HU.out.trans hk.low)
  have h1 : y.heap.size ≤ w1.heap.size := HB1.out.size
  have hq := eqCm (0) (0) (0) (0) (false) (0) (0) (0) (b) (hS) (hH) (hL) (⟨#[]⟩) (t) (sp)
  clear hx hk HX0 HU
  generalize zCm (0) (0) (0) (0) (false) (0) (0) (0) (b) (hS) (hH) (hL) (⟨#[]⟩) (t) (sp) = Z at *
  cases Z
  · have HR : Hid ((false && fl.all (fun z => z.2)) = false) := hidP rfl
    go_wp2_with fail
    go_ret2
    exact ⟨Or.inr ⟨by rw [HR0.out]; exact HR.out, rfl⟩, HB1.out⟩
  · go_wp2_with fail
    refine (HFO.out _ (HT.out.below HB1.out)).mono ?_
    rintro e w2 ⟨a, c, rfl, ho, hb2⟩
    have HB2 := hidP (HB1.out.trans (hb2.mono h1))
    have h2 := HB2.out.size
    have HRow := hidP ho.row
    clear hb2 ho c0 c1 c2 c3 c4 c5 c6 c7 c8 c9 c10 c11 c12 c13 c14 hq
    go_wp2_with fail
    go_loopw [18] (fun t18 x => ∃ k : Nat, k ≤ 5 ∧ t18 = .int .i64 k ∧ Hid ((fl.take k).all (fun z => z.2) = true) ∧ Hid (Below w2.heap.size w2 x)) (fun t18 _ => 5 - (intOf t18).toNat)
    case atStart => exact ⟨0, by omega, rfl, hidP (by simp), hidP (Below.refl _ _)⟩
    case round =>
      obtain ⟨k, hk, rfl, HA, HB⟩ := hrel
      have h3 := HB.out.size
      by_cases hlt : k < 5
      · obtain ⟨p, o', z, rfl, hp, hz, d0, d1⟩ := rowF HRow.out k (by rw [HL.out]; exact hlt)
        have e0 := (HB.out.cell hp).trans d0
        have e1 := (HB.out.cell hp).trans d1
        have hlt' : (k : Int) < 5 := by omega
        have HS := hidP (all_snoc hz)
        have HN := hidP (all_not hz)
        clear d0 d1 hz
        obtain ⟨zt, zf⟩ := z
        cases zf
        · have HR : Hid ((true && fl.all (fun z => z.2)) = false) := hidP (by rw [Bool.true_and]; exact HN.out rfl)
          go_wp2_with fail
          go_ret2
          exact ⟨Or.inr ⟨by rw [HR0.out]; exact HR.out, rfl⟩, (HB2.out.trans (HB.out.mono h2)).alloc (by omega) _⟩
        · go_wp2_with fail
          go_roundw
          case rel => exact ⟨k + 1, by omega, by go_num, hidP (by rw [HS.out, HA.out]; rfl), hidP (HB.out.alloc h3 _)⟩
          case measure => simp [intOf]; omega
      · have HR : Hid ((true && fl.all (fun z => z.2)) = true) := hidP (by rw [Bool.true_and]; have := HA.out; rw [List.take_of_length_le (by rw [HL.out]; omega)] at this; exact this)
        have hkn : k = 5 := by omega
        subst hkn
        go_wp2_with fail
        go_ret2
        exact ⟨Or.inl ⟨by rw [HR0.out]; exact HR.out, rfl⟩, HB2.out.trans (HB.out.mono h2)⟩

set_option maxRecDepth 10000 in
set_option maxHeartbeats 4000000 in
theorem ro_7 (s q n : Int) (aS : Bool) (aH aL : BitVec 64) (ab b : Int) (hS : Bool) (hH hL : Int) (o : ByteArray) (t sp : Int) (TA TH : List UInt8) (HI : Hid (CmI s q n b t sp o)) (HTA : Hid (TA.length ≤ 200 ∧ ∀ w : World, Tabs w → Calls Tryz.prog 84 #[.agg #[.bool aS, .int .i64 aH.toInt, .int .i64 aL.toInt, .int .i64 ab]] w fun e w' => e = .returned (.string ⟨TA.toArray⟩) ∧ Below w.heap.size w w')) (HTH : Hid (TH.length ≤ 200 ∧ ∀ w : World, Tabs w → Calls Tryz.prog 87 #[.agg #[.bool hS, .int .i64 hH, .int .i64 hL]] w fun e w' => e = .returned (.string ⟨TH.toArray⟩) ∧ Below w.heap.size w w')) (y : World) (ht : Tabs y) :
    Calls Tryz.prog 47 #[.agg #[.int .i64 7, .int .i64 s, .int .i64 q, .int .i64 n, .bool aS, .int .i64 aH.toInt, .int .i64 aL.toInt, .int .i64 ab, .int .i64 b, .bool hS, .int .i64 hH, .int .i64 hL, .string o, .int .i64 t, .int .i64 sp]] y fun e w' => (((zCm (0) (0) (0) (0) (false) (0) (0) (0) (b) (hS) (hH) (hL) (⟨#[]⟩) (t) (0) && [((fT ⟨#[115, 101, 115, 115, 105, 111, 110]⟩ s), (rB 1 s 1000000)), ((fT ⟨#[115, 101, 113]⟩ q), (rB 1 q 1000000)), ((fT ⟨#[110, 111, 119]⟩ n), (rB 0 n 1000000000)), ((aT TA), (pokB aS aH aL ab)), ((oT o), (ownB o)), ((fT ⟨#[115, 112, 97, 110]⟩ sp), (rB 1 sp 1000))].all (fun z => z.2)) = true ∧ e = .returned (.tuple #[.iface 132 (.agg #[.int .i64 s, .int .i64 q, .int .i64 n, .bool aS, .int .i64 aH.toInt, .int .i64 aL.toInt, .int .i64 ab, .string o, .int .i64 sp]), .bool true])) ∨ ((zCm (0) (0) (0) (0) (false) (0) (0) (0) (b) (hS) (hH) (hL) (⟨#[]⟩) (t) (0) && [((fT ⟨#[115, 101, 115, 115, 105, 111, 110]⟩ s), (rB 1 s 1000000)), ((fT ⟨#[115, 101, 113]⟩ q), (rB 1 q 1000000)), ((fT ⟨#[110, 111, 119]⟩ n), (rB 0 n 1000000000)), ((aT TA), (pokB aS aH aL ab)), ((oT o), (ownB o)), ((fT ⟨#[115, 112, 97, 110]⟩ sp), (rB 1 sp 1000))].all (fun z => z.2)) = false ∧ e = .returned (.tuple #[.nilIface, .bool false]))) ∧ Below y.heap.size y w' := by
  have HT := hidP ht
  have HFO := hidP (fun w (h : Tabs w) => fo_7 s q n aS aH aL ab b hS hH hL o t sp TA TH HI HTA HTH w h)
  have hlen : [((fT ⟨#[115, 101, 115, 115, 105, 111, 110]⟩ s), (rB 1 s 1000000)), ((fT ⟨#[115, 101, 113]⟩ q), (rB 1 q 1000000)), ((fT ⟨#[110, 111, 119]⟩ n), (rB 0 n 1000000000)), ((aT TA), (pokB aS aH aL ab)), ((oT o), (ownB o)), ((fT ⟨#[115, 112, 97, 110]⟩ sp), (rB 1 sp 1000))].length = 6 := rfl
  generalize [((fT ⟨#[115, 101, 115, 115, 105, 111, 110]⟩ s), (rB 1 s 1000000)), ((fT ⟨#[115, 101, 113]⟩ q), (rB 1 q 1000000)), ((fT ⟨#[110, 111, 119]⟩ n), (rB 0 n 1000000000)), ((aT TA), (pokB aS aH aL ab)), ((oT o), (ownB o)), ((fT ⟨#[115, 112, 97, 110]⟩ sp), (rB 1 sp 1000))] = fl at *
  have HL := hidP hlen
  obtain ⟨R, hR⟩ : ∃ R : Bool, R = (zCm (0) (0) (0) (0) (false) (0) (0) (0) (b) (hS) (hH) (hL) (⟨#[]⟩) (t) (0) && fl.all (fun z => z.2)) := ⟨_, rfl⟩
  rw [← hR]
  have HR0 := hidP hR
  clear hR
  clear ht hlen HI HTA HTH
  go_enter Tryz.func47, Tryz.ntmps47
  go_wp2_with fail
  have HX0 := hidP (Bx.new y [.int .i64 7, .int .i64 s, .int .i64 q, .int .i64 n, .bool aS, .int .i64 aH.toInt, .int .i64 aL.toInt, .int .i64 ab, .int .i64 b, .bool hS, .int .i64 hH, .int .i64 hL, .string o, .int .i64 t, .int .i64 sp] 35)
  have HU := hidP ((Below.refl y.heap.size y).alloc (Nat.le_refl _) (.cells #[.int .i64 7, .int .i64 s, .int .i64 q, .int .i64 n, .bool aS, .int .i64 aH.toInt, .int .i64 aL.toInt, .int .i64 ab, .int .i64 b, .bool hS, .int .i64 hH, .int .i64 hL, .string o, .int .i64 t, .int .i64 sp] 35))
  refine (oo_7 y.heap.size s q n aS aH.toInt aL.toInt ab b hS hH hL o t sp _ HX0.out).mono ?_
  rintro e w1 ⟨rfl, hx, hk⟩
  have c0 := hx.cel 0 _ rfl
  have c1 := hx.cel 1 _ rfl
  have c2 := hx.cel 2 _ rfl
  have c3 := hx.cel 3 _ rfl
  have c4 := hx.cel 4 _ rfl
  have c5 := hx.cel 5 _ rfl
  have c6 := hx.cel 6 _ rfl
  have c7 := hx.cel 7 _ rfl
  have c8 := hx.cel 8 _ rfl
  have c9 := hx.cel 9 _ rfl
  have c10 := hx.cel 10 _ rfl
  have c11 := hx.cel 11 _ rfl
  have c12 := hx.cel 12 _ rfl
  have c13 := hx.cel 13 _ rfl
  have c14 := hx.cel 14 _ rfl
  have HB1 := hidP (HU.out.trans hk.low)
  have h1 : y.heap.size ≤ w1.heap.size := HB1.out.size
  have hq := eqCm (0) (0) (0) (0) (false) (0) (0) (0) (b) (hS) (hH) (hL) (⟨#[]⟩) (t) (0)
  clear hx hk HX0 HU
  generalize zCm (0) (0) (0) (0) (false) (0) (0) (0) (b) (hS) (hH) (hL) (⟨#[]⟩) (t) (0) = Z at *
  cases Z
  · have HR : Hid ((false && fl.all (fun z => z.2)) = false) := hidP rfl
    go_wp2_with fail
    go_ret2
    exact ⟨Or.inr ⟨by rw [HR0.out]; exact HR.out, rfl⟩, HB1.out⟩
  · go_wp2_with fail
    refine (HFO.out _ (HT.out.below HB1.out)).mono ?_
    rintro e w2 ⟨a, c, rfl, ho, hb2⟩
    have HB2 := hidP (HB1.out.trans (hb2.mono h1))
    have h2 := HB2.out.size
    have HRow := hidP ho.row
    clear hb2 ho c0 c1 c2 c3 c4 c5 c6 c7 c8 c9 c10 c11 c12 c13 c14 hq
    go_wp2_with fail
    go_loopw [18] (fun t18 x => ∃ k : Nat, k ≤ 6 ∧ t18 = .int .i64 k ∧ Hid ((fl.take k).all (fun z => z.2) = true) ∧ Hid (Below w2.heap.size w2 x)) (fun t18 _ => 6 - (intOf t18).toNat)
    case atStart => exact ⟨0, by omega, rfl, hidP (by simp), hidP (Below.refl _ _)⟩
    case round =>
      obtain ⟨k, hk, rfl, HA, HB⟩ := hrel
      have h3 := HB.out.size
      by_cases hlt : k < 6
      · obtain ⟨p, o', z, rfl, hp, hz, d0, d1⟩ := rowF HRow.out k (by rw [HL.out]; exact hlt)
        have e0 := (HB.out.cell hp).trans d0
        have e1 := (HB.out.cell hp).trans d1
        have hlt' : (k : Int) < 6 := by omega
        have HS := hidP (all_snoc hz)
        have HN := hidP (all_not hz)
        clear d0 d1 hz
        obtain ⟨zt, zf⟩ := z
        cases zf
        · have HR : Hid ((true && fl.all (fun z => z.2)) = false) := hidP (by rw [Bool.true_and]; exact HN.out rfl)
          go_wp2_with fail
          go_ret2
          exact ⟨Or.inr ⟨by rw [HR0.out]; exact HR.out, rfl⟩, (HB2.out.trans (HB.out.mono h2)).alloc (by omega) _⟩
        · go_wp2_with fail
          go_roundw
          case rel => exact ⟨k + 1, by omega, by go_num, hidP (by rw [HS.out, HA.out]; rfl), hidP (HB.out.alloc h3 _)⟩
          case measure => simp [intOf]; omega
      · have HR : Hid ((true && fl.all (fun z => z.2)) = true) := hidP (by rw [Bool.true_and]; have := HA.out; rw [List.take_of_length_le (by rw [HL.out]; omega)] at this; exact this)
        have hkn : k = 6 := by omega
        subst hkn
        go_wp2_with fail
        go_ret2
        exact ⟨Or.inl ⟨by rw [HR0.out]; exact HR.out, rfl⟩, HB2.out.trans (HB.out.mono h2)⟩

end Go.Proofs.YtnchndcanhmbeaaGreatDoor
namespace Go.Proofs.YtnchndcanhmbeaaGreatDoor
open Go.RowKit

set_option maxRecDepth 10000 in
set_option maxHeartbeats 4000000 in
theorem fo_8 (s q n : Int) (aS : Bool) (aH aL : BitVec 64) (ab b : Int) (hS : Bool) (hH hL : Int) (o : ByteArray) (t sp : Int) (TA TH : List UInt8) (HI : Hid (CmI s q n b t sp o)) (_ : Hid (TA.length ≤ 200 ∧ ∀ w : World, Tabs w → Calls Tryz.prog 84 #[.agg #[.bool aS, .int .i64 aH.toInt, .int .i64 aL.toInt, .int .i64 ab]] w fun e w' => e = .returned (.string ⟨TA.toArray⟩) ∧ Below w.heap.size w w')) (HTH : Hid (TH.length ≤ 200 ∧ ∀ w : World, Tabs w → Calls Tryz.prog 87 #[.agg #[.bool hS, .int .i64 hH, .int .i64 hL]] w fun e w' => e = .returned (.string ⟨TH.toArray⟩) ∧ Below w.heap.size w w')) (y : World) (ht : Tabs y) :
    Calls Tryz.prog 61 #[.iface 136 (.agg #[.int .i64 s, .int .i64 q, .int .i64 n, .bool hS, .int .i64 hH, .int .i64 hL, .string o, .int .i64 sp])] y fun e w' => ∃ a c, e = .returned (.slice a 6 c) ∧ OwnG KF 106 w' y.heap.size (.slice a 6 c) [((fT ⟨#[115, 101, 115, 115, 105, 111, 110]⟩ s), (rB 1 s 1000000)), ((fT ⟨#[115, 101, 113]⟩ q), (rB 1 q 1000000)), ((fT ⟨#[110, 111, 119]⟩ n), (rB 0 n 1000000000)), ((hT TH), (okB hS hH hL)), ((oT o), (ownB o)), ((fT ⟨#[115, 112, 97, 110]⟩ sp), (rB 1 sp 1000))] ∧ Below y.heap.size y w' := by
  have HT := hidP ht
  clear ht
  have a1 : ∀ w : World, (Instr.typeAssert (.iface 136 (.agg #[.int .i64 s, .int .i64 q, .int .i64 n, .bool hS, .int .i64 hH, .int .i64 hL, .string o, .int .i64 sp])) 80 114 true).run Tryz.prog w = .ok (.tuple #[.agg #[.int .i64 0], .bool false]) w := fun _ => by kernel_rfl
  have a2 : ∀ w : World, (Instr.typeAssert (.iface 136 (.agg #[.int .i64 s, .int .i64 q, .int .i64 n, .bool hS, .int .i64 hH, .int .i64 hL, .string o, .int .i64 sp])) 80 116 true).run Tryz.prog w = .ok (.tuple #[.agg #[.int .i64 0, .int .i64 0], .bool false]) w := fun _ => by kernel_rfl
  have a3 : ∀ w : World, (Instr.typeAssert (.iface 136 (.agg #[.int .i64 s, .int .i64 q, .int .i64 n, .bool hS, .int .i64 hH, .int .i64 hL, .string o, .int .i64 sp])) 80 123 true).run Tryz.prog w = .ok (.tuple #[.agg #[.int .i64 0, .int .i64 0, .int .i64 0, .bool false, .int .i64 0, .int .i64 0, .int .i64 0, .int .i64 0], .bool false]) w := fun _ => by kernel_rfl
  have a4 : ∀ w : World, (Instr.typeAssert (.iface 136 (.agg #[.int .i64 s, .int .i64 q, .int .i64 n, .bool hS, .int .i64 hH, .int .i64 hL, .string o, .int .i64 sp])) 80 125 true).run Tryz.prog w = .ok (.tuple #[.agg #[.int .i64 0, .int .i64 0, .int .i64 0, .bool false, .int .i64 0, .int .i64 0, .int .i64 0], .bool false]) w := fun _ => by kernel_rfl
  have a5 : ∀ w : World, (Instr.typeAssert (.iface 136 (.agg #[.int .i64 s, .int .i64 q, .int .i64 n, .bool hS, .int .i64 hH, .int .i64 hL, .string o, .int .i64 sp])) 80 129 true).run Tryz.prog w = .ok (.tuple #[.agg #[.int .i64 0, .int .i64 0, .int .i64 0, .bool false, .int .i64 0, .int .i64 0, .int .i64 0, .string ⟨#[]⟩], .bool false]) w := fun _ => by kernel_rfl
  have a6 : ∀ w : World, (Instr.typeAssert (.iface 136 (.agg #[.int .i64 s, .int .i64 q, .int .i64 n, .bool hS, .int .i64 hH, .int .i64 hL, .string o, .int .i64 sp])) 80 130 true).run Tryz.prog w = .ok (.tuple #[.agg #[.int .i64 0, .int .i64 0, .int .i64 0, .bool false, .int .i64 0, .int .i64 0, .int .i64 0, .string ⟨#[]⟩], .bool false]) w := fun _ => by kernel_rfl
  have a7 : ∀ w : World, (Instr.typeAssert (.iface 136 (.agg #[.int .i64 s, .int .i64 q, .int .i64 n, .bool hS, .int .i64 hH, .int .i64 hL, .string o, .int .i64 sp])) 80 132 true).run Tryz.prog w = .ok (.tuple #[.agg #[.int .i64 0, .int .i64 0, .int .i64 0, .bool false, .int .i64 0, .int .i64 0, .int .i64 0, .string ⟨#[]⟩, .int .i64 0], .bool false]) w := fun _ => by kernel_rfl
  have a8 : ∀ w : World, (Instr.typeAssert (.iface 136 (.agg #[.int .i64 s, .int .i64 q, .int .i64 n, .bool hS, .int .i64 hH, .int .i64 hL, .string o, .int .i64 sp])) 80 136 true).run Tryz.prog w = .ok (.tuple #[.agg #[.int .i64 s, .int .i64 q, .int .i64 n, .bool hS, .int .i64 hH, .int .i64 hL, .string o, .int .i64 sp], .bool true]) w := fun _ => by kernel_rfl
  have CS := hidP (fun w (h : Tabs w) => sessionField_any s HI.out.s w h)
  have CQ := hidP (fun w (h : Tabs w) => seqField_any q HI.out.q w h)
  have CN := hidP (fun w (h : Tabs w) => nowField_any n HI.out.n w h)
  have CH := hidP (fun w (h : Tabs w) => hostField_any hS hH hL TH HTH.out.1 HTH.out.2 w h)
  have CO := hidP (fun w => ownerField_any o HI.out.o w)
  have CP := hidP (fun w (h : Tabs w) => spanField_any sp HI.out.p w h)
  have CW := hidP (fun g m bs w h e1 e2 e3 => with_any s q n HI.out.s HI.out.q HI.out.n g m bs w h e1 e2 e3)
  generalize fT ⟨#[115, 101, 115, 115, 105, 111, 110]⟩ s = TS at *
  generalize rB 1 s 1000000 = rS at *
  generalize fT ⟨#[115, 101, 113]⟩ q = TQ at *
  generalize rB 1 q 1000000 = rQ at *
  generalize fT ⟨#[110, 111, 119]⟩ n = TN at *
  generalize rB 0 n 1000000000 = rN at *
  generalize hT TH = TH at *
  generalize okB hS hH hL = rH at *
  generalize oT o = TO at *
  generalize ownB o = rO at *
  generalize fT ⟨#[115, 112, 97, 110]⟩ sp = TP at *
  generalize rB 1 sp 1000 = rP at *
  clear HI HTH
  go_enter Tryz.func61, Tryz.ntmps61
  go_wp2_with fail
  have u0 : (y.alloc (.cells #[.int .i64 s, .int .i64 q, .int .i64 n, .bool hS, .int .i64 hH, .int .i64 hL, .string o, .int .i64 sp] 136)).cell? ⟨y.heap.size, 0, none⟩ = some (.int .i64 s) := by simp [go_sem]
  have u1 : (y.alloc (.cells #[.int .i64 s, .int .i64 q, .int .i64 n, .bool hS, .int .i64 hH, .int .i64 hL, .string o, .int .i64 sp] 136)).cell? ⟨y.heap.size, 1, none⟩ = some (.int .i64 q) := by simp [go_sem]
  have u2 : (y.alloc (.cells #[.int .i64 s, .int .i64 q, .int .i64 n, .bool hS, .int .i64 hH, .int .i64 hL, .string o, .int .i64 sp] 136)).cell? ⟨y.heap.size, 2, none⟩ = some (.int .i64 n) := by simp [go_sem]
  have u3 : (y.alloc (.cells #[.int .i64 s, .int .i64 q, .int .i64 n, .bool hS, .int .i64 hH, .int .i64 hL, .string o, .int .i64 sp] 136)).cell? ⟨y.heap.size, 3, none⟩ = some (.bool hS) := by simp [go_sem]
  have u4 : (y.alloc (.cells #[.int .i64 s, .int .i64 q, .int .i64 n, .bool hS, .int .i64 hH, .int .i64 hL, .string o, .int .i64 sp] 136)).cell? ⟨y.heap.size, 4, none⟩ = some (.int .i64 hH) := by simp [go_sem]
  have u5 : (y.alloc (.cells #[.int .i64 s, .int .i64 q, .int .i64 n, .bool hS, .int .i64 hH, .int .i64 hL, .string o, .int .i64 sp] 136)).cell? ⟨y.heap.size, 5, none⟩ = some (.int .i64 hL) := by simp [go_sem]
  have u6 : (y.alloc (.cells #[.int .i64 s, .int .i64 q, .int .i64 n, .bool hS, .int .i64 hH, .int .i64 hL, .string o, .int .i64 sp] 136)).cell? ⟨y.heap.size, 6, none⟩ = some (.string o) := by simp [go_sem]
  have u7 : (y.alloc (.cells #[.int .i64 s, .int .i64 q, .int .i64 n, .bool hS, .int .i64 hH, .int .i64 hL, .string o, .int .i64 sp] 136)).cell? ⟨y.heap.size, 7, none⟩ = some (.int .i64 sp) := by simp [go_sem]
  have uL : y.heap.size < (y.alloc (.cells #[.int .i64 s, .int .i64 q, .int .i64 n, .bool hS, .int .i64 hH, .int .i64 hL, .string o, .int .i64 sp] 136)).heap.size := by simp
  have HU := hidP ((Below.refl y.heap.size y).alloc (Nat.le_refl _) (.cells #[.int .i64 s, .int .i64 q, .int .i64 n, .bool hS, .int .i64 hH, .int .i64 hL, .string o, .int .i64 sp] 136))
  generalize y.alloc (.cells #[.int .i64 s, .int .i64 q, .int .i64 n, .bool hS, .int .i64 hH, .int .i64 hL, .string o, .int .i64 sp] 136) = W1 at *
  have hU := HU.out.size
  have HSx : Hid (∀ x, Below W1.heap.size W1 x → (x.cell? ⟨y.heap.size, 0, none⟩ = some (.int .i64 s) ∧ x.cell? ⟨y.heap.size, 1, none⟩ = some (.int .i64 q) ∧ x.cell? ⟨y.heap.size, 2, none⟩ = some (.int .i64 n) ∧ x.cell? ⟨y.heap.size, 3, none⟩ = some (.bool hS) ∧ x.cell? ⟨y.heap.size, 4, none⟩ = some (.int .i64 hH) ∧ x.cell? ⟨y.heap.size, 5, none⟩ = some (.int .i64 hL) ∧ x.cell? ⟨y.heap.size, 6, none⟩ = some (.string o) ∧ x.cell? ⟨y.heap.size, 7, none⟩ = some (.int .i64 sp) ∧ Below W1.heap.size W1 x)) := hidP fun x h =>
    ⟨(h.cell uL).trans u0, (h.cell uL).trans u1, (h.cell uL).trans u2, (h.cell uL).trans u3, (h.cell uL).trans u4, (h.cell uL).trans u5, (h.cell uL).trans u6, (h.cell uL).trans u7, h⟩
  refine wp_region_held_drew (S := (fun x => x.cell? ⟨y.heap.size, 0, none⟩ = some (.int .i64 s) ∧ x.cell? ⟨y.heap.size, 1, none⟩ = some (.int .i64 q) ∧ x.cell? ⟨y.heap.size, 2, none⟩ = some (.int .i64 n) ∧ x.cell? ⟨y.heap.size, 3, none⟩ = some (.bool hS) ∧ x.cell? ⟨y.heap.size, 4, none⟩ = some (.int .i64 hH) ∧ x.cell? ⟨y.heap.size, 5, none⟩ = some (.int .i64 hL) ∧ x.cell? ⟨y.heap.size, 6, none⟩ = some (.string o) ∧ x.cell? ⟨y.heap.size, 7, none⟩ = some (.int .i64 sp) ∧ Below W1.heap.size W1 x)) (by kernel_rfl) ?_ (fun hHeld => ?_)
  · try dsimp only
    exact HSx.out _ ((Below.refl _ _).drew)
  refine tkA 0 100 (v := ?_) rfl (by kernel_rfl) (fun _ _ _ h => h) (by rfl) ?_ (by assumption) ?_; rotate_left; · (intro w hSw; (try dsimp only at hSw); go_simp; try with_reducible rfl)
  simp only [pa]
  refine tkA 1 101 (v := ?_) rfl (by kernel_rfl) (fun _ _ _ h => h) (by rfl) ?_ (by assumption) ?_; rotate_left; · (intro w hSw; (try dsimp only at hSw); go_simp; try with_reducible rfl)
  simp only [pa]
  refine tkA 2 102 (v := ?_) rfl (by kernel_rfl) (fun _ _ _ h => h) (by rfl) ?_ (by assumption) ?_; rotate_left; · (intro w hSw; (try dsimp only at hSw); go_simp; try with_reducible rfl)
  simp only [pa]
  refine tkA 3 103 (v := ?_) rfl (by kernel_rfl) (fun _ _ _ h => h) (by rfl) ?_ (by assumption) ?_; rotate_left; · (intro w hSw; (try dsimp only at hSw); go_simp; try with_reducible rfl)
  simp only [pa]
  refine tkA 5 105 (v := ?_) rfl (by kernel_rfl) (fun _ _ _ h => h) (by rfl) ?_ (by assumption) ?_; rotate_left; · (intro w hSw; (try dsimp only at hSw); go_simp; try with_reducible rfl)
  simp only [pa]
  refine tkA 6 106 (v := ?_) rfl (by kernel_rfl) (fun _ _ _ h => h) (by rfl) ?_ (by assumption) ?_; rotate_left; · (intro w hSw; (try dsimp only at hSw); go_simp; try with_reducible rfl)
  simp only [pa]
  refine tkA 8 108 (v := ?_) rfl (by kernel_rfl) (fun _ _ _ h => h) (by rfl) ?_ (by assumption) ?_; rotate_left; · (intro w hSw; (try dsimp only at hSw); go_simp; try with_reducible rfl)
  simp only [pa]
  refine tkA 9 109 (v := ?_) rfl (by kernel_rfl) (fun _ _ _ h => h) (by rfl) ?_ (by assumption) ?_; rotate_left; · (intro w hSw; (try dsimp only at hSw); go_simp; try with_reducible rfl)
  simp only [pa]
  refine wpAnyH_ready (rs := [4]) (by kernel_rfl) (by simp) ?_
  refine AllReadyH.cons rfl (fun K hK => ?_) AllReadyH.nil
  go_simp
  go_wp2_with (first | (go_at_call 80; refine (CH.out _ (HT.out.below (HU.out.trans ((hHeld.2.2.2.2.2.2.2.2).mono hU)))).mono ?_; rintro e w2 ⟨rfl, hb2⟩; have b2 := (hHeld.2.2.2.2.2.2.2.2).trans (hb2.mono (hHeld.2.2.2.2.2.2.2.2).size)))
  refine hK.out _ _ ?_ (fun hHeld => ?_)
  · try dsimp only
    exact HSx.out _ b2
  clear hK K
  refine wpAnyH_ready (rs := [7]) (by kernel_rfl) (by simp) ?_
  refine AllReadyH.cons rfl (fun K hK => ?_) AllReadyH.nil
  go_simp
  go_wp2_with (first | (go_at_call 78; refine (CO.out _).mono ?_; rintro e w3 ⟨rfl, hb3⟩; have b3 := (hHeld.2.2.2.2.2.2.2.2).trans (hb3.mono (hHeld.2.2.2.2.2.2.2.2).size)))
  refine hK.out _ _ ?_ (fun hHeld => ?_)
  · try dsimp only
    exact HSx.out _ b3
  clear hK K
  refine wpAnyH_ready (rs := [10]) (by kernel_rfl) (by simp) ?_
  refine AllReadyH.cons rfl (fun K hK => ?_) AllReadyH.nil
  go_simp
  go_wp2_with (first | (go_at_call 79; refine (CP.out _ (HT.out.below (HU.out.trans ((hHeld.2.2.2.2.2.2.2.2).mono hU)))).mono ?_; rintro e w4 ⟨rfl, hb4⟩; have b4 := (hHeld.2.2.2.2.2.2.2.2).trans (hb4.mono (hHeld.2.2.2.2.2.2.2.2).size)))
  refine hK.out _ _ ?_ (fun hHeld => ?_)
  · try dsimp only
    exact HSx.out _ b4
  clear hK K
  refine wpAnyH_ready (rs := [11]) (by kernel_rfl) (by simp) ?_
  refine AllReadyH.cons rfl (fun K hK => ?_) AllReadyH.nil
  go_simp
  have bA := (hHeld.2.2.2.2.2.2.2.2).alloc (hHeld.2.2.2.2.2.2.2.2).size (.cells #[.string TH, .bool rH, .string TO, .bool rO, .string TP, .bool rP] 106)
  refine hK.out _ _ ?_ (fun hHeld => ?_)
  · try dsimp only
    exact HSx.out _ bA
  clear hK K
  refine wpAnyH_ready (rs := [12]) (by kernel_rfl) (by simp) ?_
  refine AllReadyH.cons rfl (fun K hK => ?_) AllReadyH.nil
  go_simp
  go_wp2_with (first | (go_at_call 75; refine (CW.out w4.heap.size 3 [(TH, rH), (TO, rO), (TP, rP)] _ (HT.out.below (HU.out.trans ((hHeld.2.2.2.2.2.2.2.2).mono hU))) rfl (by omega) (own_manyG KF w4 0 106 [(TH, rH), (TO, rO), (TP, rP)] #[.string TH, .bool rH, .string TO, .bool rO, .string TP, .bool rP] rfl 3 rfl (by omega) (Nat.zero_le _)).row).mono ?_; rintro e w5 ⟨a9, c9, rfl, ho9, hb5⟩; have b5 := (hHeld.2.2.2.2.2.2.2.2).trans (hb5.mono (hHeld.2.2.2.2.2.2.2.2).size)))
  refine hK.out _ _ ?_ (fun hHeld => ?_)
  · try dsimp only
    exact HSx.out _ b5
  clear hK K
  refine tkA 13 2 (v := ?_) rfl (by kernel_rfl) (fun _ _ _ h => h) (by rfl) ?_ (by assumption) ?_; rotate_left; · (intro w hSw; (try dsimp only at hSw); go_simp; try with_reducible rfl)
  simp only [Act.put, List.setIfInBounds_toArray]
  have HE := hidP (hHeld.2.2.2.2.2.2.2.2)
  refine wpAnyH_done (by kernel_rfl) ?_ _
  clear hHeld
  have hA := bA.size
  go_wp2_with fail
  go_ret
  exact ⟨a9, c9, by simp, ho9.mono (by simp; simp at hA; omega), HU.out.trans (HE.out.mono hU)⟩

set_option maxRecDepth 10000 in
set_option maxHeartbeats 4000000 in
theorem fo_9 (s q n : Int) (aS : Bool) (aH aL : BitVec 64) (ab b : Int) (hS : Bool) (hH hL : Int) (o : ByteArray) (t sp : Int) (TA TH : List UInt8) (HI : Hid (CmI s q n b t sp o)) (_ : Hid (TA.length ≤ 200 ∧ ∀ w : World, Tabs w → Calls Tryz.prog 84 #[.agg #[.bool aS, .int .i64 aH.toInt, .int .i64 aL.toInt, .int .i64 ab]] w fun e w' => e = .returned (.string ⟨TA.toArray⟩) ∧ Below w.heap.size w w')) (HTH : Hid (TH.length ≤ 200 ∧ ∀ w : World, Tabs w → Calls Tryz.prog 87 #[.agg #[.bool hS, .int .i64 hH, .int .i64 hL]] w fun e w' => e = .returned (.string ⟨TH.toArray⟩) ∧ Below w.heap.size w w')) (y : World) (ht : Tabs y) :
    Calls Tryz.prog 61 #[.iface 138 (.agg #[.int .i64 s, .int .i64 q, .int .i64 n, .bool hS, .int .i64 hH, .int .i64 hL, .int .i64 t, .int .i64 sp])] y fun e w' => ∃ a c, e = .returned (.slice a 6 c) ∧ OwnG KF 106 w' y.heap.size (.slice a 6 c) [((fT ⟨#[115, 101, 115, 115, 105, 111, 110]⟩ s), (rB 1 s 1000000)), ((fT ⟨#[115, 101, 113]⟩ q), (rB 1 q 1000000)), ((fT ⟨#[110, 111, 119]⟩ n), (rB 0 n 1000000000)), ((hT TH), (okB hS hH hL)), ((fT ⟨#[116, 111, 107, 101, 110]⟩ t), (rB 1 t 1000000000)), ((fT ⟨#[115, 112, 97, 110]⟩ sp), (rB 1 sp 1000))] ∧ Below y.heap.size y w' := by
  have HT := hidP ht
  clear ht
  have a1 : ∀ w : World, (Instr.typeAssert (.iface 138 (.agg #[.int .i64 s, .int .i64 q, .int .i64 n, .bool hS, .int .i64 hH, .int .i64 hL, .int .i64 t, .int .i64 sp])) 80 114 true).run Tryz.prog w = .ok (.tuple #[.agg #[.int .i64 0], .bool false]) w := fun _ => by kernel_rfl
  have a2 : ∀ w : World, (Instr.typeAssert (.iface 138 (.agg #[.int .i64 s, .int .i64 q, .int .i64 n, .bool hS, .int .i64 hH, .int .i64 hL, .int .i64 t, .int .i64 sp])) 80 116 true).run Tryz.prog w = .ok (.tuple #[.agg #[.int .i64 0, .int .i64 0], .bool false]) w := fun _ => by kernel_rfl
  have a3 : ∀ w : World, (Instr.typeAssert (.iface 138 (.agg #[.int .i64 s, .int .i64 q, .int .i64 n, .bool hS, .int .i64 hH, .int .i64 hL, .int .i64 t, .int .i64 sp])) 80 123 true).run Tryz.prog w = .ok (.tuple #[.agg #[.int .i64 0, .int .i64 0, .int .i64 0, .bool false, .int .i64 0, .int .i64 0, .int .i64 0, .int .i64 0], .bool false]) w := fun _ => by kernel_rfl
  have a4 : ∀ w : World, (Instr.typeAssert (.iface 138 (.agg #[.int .i64 s, .int .i64 q, .int .i64 n, .bool hS, .int .i64 hH, .int .i64 hL, .int .i64 t, .int .i64 sp])) 80 125 true).run Tryz.prog w = .ok (.tuple #[.agg #[.int .i64 0, .int .i64 0, .int .i64 0, .bool false, .int .i64 0, .int .i64 0, .int .i64 0], .bool false]) w := fun _ => by kernel_rfl
  have a5 : ∀ w : World, (Instr.typeAssert (.iface 138 (.agg #[.int .i64 s, .int .i64 q, .int .i64 n, .bool hS, .int .i64 hH, .int .i64 hL, .int .i64 t, .int .i64 sp])) 80 129 true).run Tryz.prog w = .ok (.tuple #[.agg #[.int .i64 0, .int .i64 0, .int .i64 0, .bool false, .int .i64 0, .int .i64 0, .int .i64 0, .string ⟨#[]⟩], .bool false]) w := fun _ => by kernel_rfl
  have a6 : ∀ w : World, (Instr.typeAssert (.iface 138 (.agg #[.int .i64 s, .int .i64 q, .int .i64 n, .bool hS, .int .i64 hH, .int .i64 hL, .int .i64 t, .int .i64 sp])) 80 130 true).run Tryz.prog w = .ok (.tuple #[.agg #[.int .i64 0, .int .i64 0, .int .i64 0, .bool false, .int .i64 0, .int .i64 0, .int .i64 0, .string ⟨#[]⟩], .bool false]) w := fun _ => by kernel_rfl
  have a7 : ∀ w : World, (Instr.typeAssert (.iface 138 (.agg #[.int .i64 s, .int .i64 q, .int .i64 n, .bool hS, .int .i64 hH, .int .i64 hL, .int .i64 t, .int .i64 sp])) 80 132 true).run Tryz.prog w = .ok (.tuple #[.agg #[.int .i64 0, .int .i64 0, .int .i64 0, .bool false, .int .i64 0, .int .i64 0, .int .i64 0, .string ⟨#[]⟩, .int .i64 0], .bool false]) w := fun _ => by kernel_rfl
  have a8 : ∀ w : World, (Instr.typeAssert (.iface 138 (.agg #[.int .i64 s, .int .i64 q, .int .i64 n, .bool hS, .int .i64 hH, .int .i64 hL, .int .i64 t, .int .i64 sp])) 80 136 true).run Tryz.prog w = .ok (.tuple #[.agg #[.int .i64 0, .int .i64 0, .int .i64 0, .bool false, .int .i64 0, .int .i64 0, .string ⟨#[]⟩, .int .i64 0], .bool false]) w := fun _ => by kernel_rfl
  have a9 : ∀ w : World, (Instr.typeAssert (.iface 138 (.agg #[.int .i64 s, .int .i64 q, .int .i64 n, .bool hS, .int .i64 hH, .int .i64 hL, .int .i64 t, .int .i64 sp])) 80 138 true).run Tryz.prog w = .ok (.tuple #[.agg #[.int .i64 s, .int .i64 q, .int .i64 n, .bool hS, .int .i64 hH, .int .i64 hL, .int .i64 t, .int .i64 sp], .bool true]) w := fun _ => by kernel_rfl
  have CS := hidP (fun w (h : Tabs w) => sessionField_any s HI.out.s w h)
  have CQ := hidP (fun w (h : Tabs w) => seqField_any q HI.out.q w h)
  have CN := hidP (fun w (h : Tabs w) => nowField_any n HI.out.n w h)
  have CH := hidP (fun w (h : Tabs w) => hostField_any hS hH hL TH HTH.out.1 HTH.out.2 w h)
  have CT := hidP (fun w (h : Tabs w) => tokenField_any t HI.out.t w h)
  have CP := hidP (fun w (h : Tabs w) => spanField_any sp HI.out.p w h)
  have CW := hidP (fun g m bs w h e1 e2 e3 => with_any s q n HI.out.s HI.out.q HI.out.n g m bs w h e1 e2 e3)
  generalize fT ⟨#[115, 101, 115, 115, 105, 111, 110]⟩ s = TS at *
  generalize rB 1 s 1000000 = rS at *
  generalize fT ⟨#[115, 101, 113]⟩ q = TQ at *
  generalize rB 1 q 1000000 = rQ at *
  generalize fT ⟨#[110, 111, 119]⟩ n = TN at *
  generalize rB 0 n 1000000000 = rN at *
  generalize hT TH = TH at *
  generalize okB hS hH hL = rH at *
  generalize fT ⟨#[116, 111, 107, 101, 110]⟩ t = TT at *
  generalize rB 1 t 1000000000 = rT at *
  generalize fT ⟨#[115, 112, 97, 110]⟩ sp = TP at *
  generalize rB 1 sp 1000 = rP at *
  clear HI HTH
  go_enter Tryz.func61, Tryz.ntmps61
  go_wp2_with fail
  have u0 : (y.alloc (.cells #[.int .i64 s, .int .i64 q, .int .i64 n, .bool hS, .int .i64 hH, .int .i64 hL, .int .i64 t, .int .i64 sp] 138)).cell? ⟨y.heap.size, 0, none⟩ = some (.int .i64 s) := by simp [go_sem]
  have u1 : (y.alloc (.cells #[.int .i64 s, .int .i64 q, .int .i64 n, .bool hS, .int .i64 hH, .int .i64 hL, .int .i64 t, .int .i64 sp] 138)).cell? ⟨y.heap.size, 1, none⟩ = some (.int .i64 q) := by simp [go_sem]
  have u2 : (y.alloc (.cells #[.int .i64 s, .int .i64 q, .int .i64 n, .bool hS, .int .i64 hH, .int .i64 hL, .int .i64 t, .int .i64 sp] 138)).cell? ⟨y.heap.size, 2, none⟩ = some (.int .i64 n) := by simp [go_sem]
  have u3 : (y.alloc (.cells #[.int .i64 s, .int .i64 q, .int .i64 n, .bool hS, .int .i64 hH, .int .i64 hL, .int .i64 t, .int .i64 sp] 138)).cell? ⟨y.heap.size, 3, none⟩ = some (.bool hS) := by simp [go_sem]
  have u4 : (y.alloc (.cells #[.int .i64 s, .int .i64 q, .int .i64 n, .bool hS, .int .i64 hH, .int .i64 hL, .int .i64 t, .int .i64 sp] 138)).cell? ⟨y.heap.size, 4, none⟩ = some (.int .i64 hH) := by simp [go_sem]
  have u5 : (y.alloc (.cells #[.int .i64 s, .int .i64 q, .int .i64 n, .bool hS, .int .i64 hH, .int .i64 hL, .int .i64 t, .int .i64 sp] 138)).cell? ⟨y.heap.size, 5, none⟩ = some (.int .i64 hL) := by simp [go_sem]
  have u6 : (y.alloc (.cells #[.int .i64 s, .int .i64 q, .int .i64 n, .bool hS, .int .i64 hH, .int .i64 hL, .int .i64 t, .int .i64 sp] 138)).cell? ⟨y.heap.size, 6, none⟩ = some (.int .i64 t) := by simp [go_sem]
  have u7 : (y.alloc (.cells #[.int .i64 s, .int .i64 q, .int .i64 n, .bool hS, .int .i64 hH, .int .i64 hL, .int .i64 t, .int .i64 sp] 138)).cell? ⟨y.heap.size, 7, none⟩ = some (.int .i64 sp) := by simp [go_sem]
  have uL : y.heap.size < (y.alloc (.cells #[.int .i64 s, .int .i64 q, .int .i64 n, .bool hS, .int .i64 hH, .int .i64 hL, .int .i64 t, .int .i64 sp] 138)).heap.size := by simp
  have HU := hidP ((Below.refl y.heap.size y).alloc (Nat.le_refl _) (.cells #[.int .i64 s, .int .i64 q, .int .i64 n, .bool hS, .int .i64 hH, .int .i64 hL, .int .i64 t, .int .i64 sp] 138))
  generalize y.alloc (.cells #[.int .i64 s, .int .i64 q, .int .i64 n, .bool hS, .int .i64 hH, .int .i64 hL, .int .i64 t, .int .i64 sp] 138) = W1 at *
  have hU := HU.out.size
  have HSx : Hid (∀ x, Below W1.heap.size W1 x → (x.cell? ⟨y.heap.size, 0, none⟩ = some (.int .i64 s) ∧ x.cell? ⟨y.heap.size, 1, none⟩ = some (.int .i64 q) ∧ x.cell? ⟨y.heap.size, 2, none⟩ = some (.int .i64 n) ∧ x.cell? ⟨y.heap.size, 3, none⟩ = some (.bool hS) ∧ x.cell? ⟨y.heap.size, 4, none⟩ = some (.int .i64 hH) ∧ x.cell? ⟨y.heap.size, 5, none⟩ = some (.int .i64 hL) ∧ x.cell? ⟨y.heap.size, 6, none⟩ = some (.int .i64 t) ∧ x.cell? ⟨y.heap.size, 7, none⟩ = some (.int .i64 sp) ∧ Below W1.heap.size W1 x)) := hidP fun x h =>
    ⟨(h.cell uL).trans u0, (h.cell uL).trans u1, (h.cell uL).trans u2, (h.cell uL).trans u3, (h.cell uL).trans u4, (h.cell uL).trans u5, (h.cell uL).trans u6, (h.cell uL).trans u7, h⟩
  refine wp_region_held_drew (S := (fun x => x.cell? ⟨y.heap.size, 0, none⟩ = some (.int .i64 s) ∧ x.cell? ⟨y.heap.size, 1, none⟩ = some (.int .i64 q) ∧ x.cell? ⟨y.heap.size, 2, none⟩ = some (.int .i64 n) ∧ x.cell? ⟨y.heap.size, 3, none⟩ = some (.bool hS) ∧ x.cell? ⟨y.heap.size, 4, none⟩ = some (.int .i64 hH) ∧ x.cell? ⟨y.heap.size, 5, none⟩ = some (.int .i64 hL) ∧ x.cell? ⟨y.heap.size, 6, none⟩ = some (.int .i64 t) ∧ x.cell? ⟨y.heap.size, 7, none⟩ = some (.int .i64 sp) ∧ Below W1.heap.size W1 x)) (by kernel_rfl) ?_ (fun hHeld => ?_)
  · try dsimp only
    exact HSx.out _ ((Below.refl _ _).drew)
  refine tkA 0 116 (v := ?_) rfl (by kernel_rfl) (fun _ _ _ h => h) (by rfl) ?_ (by assumption) ?_; rotate_left; · (intro w hSw; (try dsimp only at hSw); go_simp; try with_reducible rfl)
  simp only [pa]
  refine tkA 1 117 (v := ?_) rfl (by kernel_rfl) (fun _ _ _ h => h) (by rfl) ?_ (by assumption) ?_; rotate_left; · (intro w hSw; (try dsimp only at hSw); go_simp; try with_reducible rfl)
  simp only [pa]
  refine tkA 2 118 (v := ?_) rfl (by kernel_rfl) (fun _ _ _ h => h) (by rfl) ?_ (by assumption) ?_; rotate_left; · (intro w hSw; (try dsimp only at hSw); go_simp; try with_reducible rfl)
  simp only [pa]
  refine tkA 3 119 (v := ?_) rfl (by kernel_rfl) (fun _ _ _ h => h) (by rfl) ?_ (by assumption) ?_; rotate_left; · (intro w hSw; (try dsimp only at hSw); go_simp; try with_reducible rfl)
  simp only [pa]
  refine tkA 5 121 (v := ?_) rfl (by kernel_rfl) (fun _ _ _ h => h) (by rfl) ?_ (by assumption) ?_; rotate_left; · (intro w hSw; (try dsimp only at hSw); go_simp; try with_reducible rfl)
  simp only [pa]
  refine tkA 6 122 (v := ?_) rfl (by kernel_rfl) (fun _ _ _ h => h) (by rfl) ?_ (by assumption) ?_; rotate_left; · (intro w hSw; (try dsimp only at hSw); go_simp; try with_reducible rfl)
  simp only [pa]
  refine tkA 8 124 (v := ?_) rfl (by kernel_rfl) (fun _ _ _ h => h) (by rfl) ?_ (by assumption) ?_; rotate_left; · (intro w hSw; (try dsimp only at hSw); go_simp; try with_reducible rfl)
  simp only [pa]
  refine tkA 9 125 (v := ?_) rfl (by kernel_rfl) (fun _ _ _ h => h) (by rfl) ?_ (by assumption) ?_; rotate_left; · (intro w hSw; (try dsimp only at hSw); go_simp; try with_reducible rfl)
  simp only [pa]
  refine wpAnyH_ready (rs := [4]) (by kernel_rfl) (by simp) ?_
  refine AllReadyH.cons rfl (fun K hK => ?_) AllReadyH.nil
  go_simp
  go_wp2_with (first | (go_at_call 80; refine (CH.out _ (HT.out.below (HU.out.trans ((hHeld.2.2.2.2.2.2.2.2).mono hU)))).mono ?_; rintro e w2 ⟨rfl, hb2⟩; have b2 := (hHeld.2.2.2.2.2.2.2.2).trans (hb2.mono (hHeld.2.2.2.2.2.2.2.2).size)))
  refine hK.out _ _ ?_ (fun hHeld => ?_)
  · try dsimp only
    exact HSx.out _ b2
  clear hK K
  refine wpAnyH_ready (rs := [7]) (by kernel_rfl) (by simp) ?_
  refine AllReadyH.cons rfl (fun K hK => ?_) AllReadyH.nil
  go_simp
  go_wp2_with (first | (go_at_call 81; refine (CT.out _ (HT.out.below (HU.out.trans ((hHeld.2.2.2.2.2.2.2.2).mono hU)))).mono ?_; rintro e w3 ⟨rfl, hb3⟩; have b3 := (hHeld.2.2.2.2.2.2.2.2).trans (hb3.mono (hHeld.2.2.2.2.2.2.2.2).size)))
  refine hK.out _ _ ?_ (fun hHeld => ?_)
  · try dsimp only
    exact HSx.out _ b3
  clear hK K
  refine wpAnyH_ready (rs := [10]) (by kernel_rfl) (by simp) ?_
  refine AllReadyH.cons rfl (fun K hK => ?_) AllReadyH.nil
  go_simp
  go_wp2_with (first | (go_at_call 79; refine (CP.out _ (HT.out.below (HU.out.trans ((hHeld.2.2.2.2.2.2.2.2).mono hU)))).mono ?_; rintro e w4 ⟨rfl, hb4⟩; have b4 := (hHeld.2.2.2.2.2.2.2.2).trans (hb4.mono (hHeld.2.2.2.2.2.2.2.2).size)))
  refine hK.out _ _ ?_ (fun hHeld => ?_)
  · try dsimp only
    exact HSx.out _ b4
  clear hK K
  refine wpAnyH_ready (rs := [11]) (by kernel_rfl) (by simp) ?_
  refine AllReadyH.cons rfl (fun K hK => ?_) AllReadyH.nil
  go_simp
  have bA := (hHeld.2.2.2.2.2.2.2.2).alloc (hHeld.2.2.2.2.2.2.2.2).size (.cells #[.string TH, .bool rH, .string TT, .bool rT, .string TP, .bool rP] 106)
  refine hK.out _ _ ?_ (fun hHeld => ?_)
  · try dsimp only
    exact HSx.out _ bA
  clear hK K
  refine wpAnyH_ready (rs := [12]) (by kernel_rfl) (by simp) ?_
  refine AllReadyH.cons rfl (fun K hK => ?_) AllReadyH.nil
  go_simp
  go_wp2_with (first | (go_at_call 75; refine (CW.out w4.heap.size 3 [(TH, rH), (TT, rT), (TP, rP)] _ (HT.out.below (HU.out.trans ((hHeld.2.2.2.2.2.2.2.2).mono hU))) rfl (by omega) (own_manyG KF w4 0 106 [(TH, rH), (TT, rT), (TP, rP)] #[.string TH, .bool rH, .string TT, .bool rT, .string TP, .bool rP] rfl 3 rfl (by omega) (Nat.zero_le _)).row).mono ?_; rintro e w5 ⟨a9, c9, rfl, ho9, hb5⟩; have b5 := (hHeld.2.2.2.2.2.2.2.2).trans (hb5.mono (hHeld.2.2.2.2.2.2.2.2).size)))
  refine hK.out _ _ ?_ (fun hHeld => ?_)
  · try dsimp only
    exact HSx.out _ b5
  clear hK K
  refine tkA 13 2 (v := ?_) rfl (by kernel_rfl) (fun _ _ _ h => h) (by rfl) ?_ (by assumption) ?_; rotate_left; · (intro w hSw; (try dsimp only at hSw); go_simp; try with_reducible rfl)
  simp only [Act.put, List.setIfInBounds_toArray]
  have HE := hidP (hHeld.2.2.2.2.2.2.2.2)
  refine wpAnyH_done (by kernel_rfl) ?_ _
  clear hHeld
  have hA := bA.size
  go_wp2_with fail
  go_ret
  exact ⟨a9, c9, by simp, ho9.mono (by simp; simp at hA; omega), HU.out.trans (HE.out.mono hU)⟩

set_option maxRecDepth 10000 in
set_option maxHeartbeats 4000000 in
theorem fo_10 (s q n : Int) (aS : Bool) (aH aL : BitVec 64) (ab b : Int) (hS : Bool) (hH hL : Int) (o : ByteArray) (t sp : Int) (TA TH : List UInt8) (HI : Hid (CmI s q n b t sp o)) (_ : Hid (TA.length ≤ 200 ∧ ∀ w : World, Tabs w → Calls Tryz.prog 84 #[.agg #[.bool aS, .int .i64 aH.toInt, .int .i64 aL.toInt, .int .i64 ab]] w fun e w' => e = .returned (.string ⟨TA.toArray⟩) ∧ Below w.heap.size w w')) (HTH : Hid (TH.length ≤ 200 ∧ ∀ w : World, Tabs w → Calls Tryz.prog 87 #[.agg #[.bool hS, .int .i64 hH, .int .i64 hL]] w fun e w' => e = .returned (.string ⟨TH.toArray⟩) ∧ Below w.heap.size w w')) (y : World) (ht : Tabs y) :
    Calls Tryz.prog 61 #[.iface 140 (.agg #[.int .i64 s, .int .i64 q, .int .i64 n, .bool hS, .int .i64 hH, .int .i64 hL, .int .i64 t])] y fun e w' => ∃ a c, e = .returned (.slice a 5 c) ∧ OwnG KF 106 w' y.heap.size (.slice a 5 c) [((fT ⟨#[115, 101, 115, 115, 105, 111, 110]⟩ s), (rB 1 s 1000000)), ((fT ⟨#[115, 101, 113]⟩ q), (rB 1 q 1000000)), ((fT ⟨#[110, 111, 119]⟩ n), (rB 0 n 1000000000)), ((hT TH), (okB hS hH hL)), ((fT ⟨#[116, 111, 107, 101, 110]⟩ t), (rB 1 t 1000000000))] ∧ Below y.heap.size y w' := by
  have HT := hidP ht
  clear ht
  have a1 : ∀ w : World, (Instr.typeAssert (.iface 140 (.agg #[.int .i64 s, .int .i64 q, .int .i64 n, .bool hS, .int .i64 hH, .int .i64 hL, .int .i64 t])) 80 114 true).run Tryz.prog w = .ok (.tuple #[.agg #[.int .i64 0], .bool false]) w := fun _ => by kernel_rfl
  have a2 : ∀ w : World, (Instr.typeAssert (.iface 140 (.agg #[.int .i64 s, .int .i64 q, .int .i64 n, .bool hS, .int .i64 hH, .int .i64 hL, .int .i64 t])) 80 116 true).run Tryz.prog w = .ok (.tuple #[.agg #[.int .i64 0, .int .i64 0], .bool false]) w := fun _ => by kernel_rfl
  have a3 : ∀ w : World, (Instr.typeAssert (.iface 140 (.agg #[.int .i64 s, .int .i64 q, .int .i64 n, .bool hS, .int .i64 hH, .int .i64 hL, .int .i64 t])) 80 123 true).run Tryz.prog w = .ok (.tuple #[.agg #[.int .i64 0, .int .i64 0, .int .i64 0, .bool false, .int .i64 0, .int .i64 0, .int .i64 0, .int .i64 0], .bool false]) w := fun _ => by kernel_rfl
  have a4 : ∀ w : World, (Instr.typeAssert (.iface 140 (.agg #[.int .i64 s, .int .i64 q, .int .i64 n, .bool hS, .int .i64 hH, .int .i64 hL, .int .i64 t])) 80 125 true).run Tryz.prog w = .ok (.tuple #[.agg #[.int .i64 0, .int .i64 0, .int .i64 0, .bool false, .int .i64 0, .int .i64 0, .int .i64 0], .bool false]) w := fun _ => by kernel_rfl
  have a5 : ∀ w : World, (Instr.typeAssert (.iface 140 (.agg #[.int .i64 s, .int .i64 q, .int .i64 n, .bool hS, .int .i64 hH, .int .i64 hL, .int .i64 t])) 80 129 true).run Tryz.prog w = .ok (.tuple #[.agg #[.int .i64 0, .int .i64 0, .int .i64 0, .bool false, .int .i64 0, .int .i64 0, .int .i64 0, .string ⟨#[]⟩], .bool false]) w := fun _ => by kernel_rfl
  have a6 : ∀ w : World, (Instr.typeAssert (.iface 140 (.agg #[.int .i64 s, .int .i64 q, .int .i64 n, .bool hS, .int .i64 hH, .int .i64 hL, .int .i64 t])) 80 130 true).run Tryz.prog w = .ok (.tuple #[.agg #[.int .i64 0, .int .i64 0, .int .i64 0, .bool false, .int .i64 0, .int .i64 0, .int .i64 0, .string ⟨#[]⟩], .bool false]) w := fun _ => by kernel_rfl
  have a7 : ∀ w : World, (Instr.typeAssert (.iface 140 (.agg #[.int .i64 s, .int .i64 q, .int .i64 n, .bool hS, .int .i64 hH, .int .i64 hL, .int .i64 t])) 80 132 true).run Tryz.prog w = .ok (.tuple #[.agg #[.int .i64 0, .int .i64 0, .int .i64 0, .bool false, .int .i64 0, .int .i64 0, .int .i64 0, .string ⟨#[]⟩, .int .i64 0], .bool false]) w := fun _ => by kernel_rfl
  have a8 : ∀ w : World, (Instr.typeAssert (.iface 140 (.agg #[.int .i64 s, .int .i64 q, .int .i64 n, .bool hS, .int .i64 hH, .int .i64 hL, .int .i64 t])) 80 136 true).run Tryz.prog w = .ok (.tuple #[.agg #[.int .i64 0, .int .i64 0, .int .i64 0, .bool false, .int .i64 0, .int .i64 0, .string ⟨#[]⟩, .int .i64 0], .bool false]) w := fun _ => by kernel_rfl
  have a9 : ∀ w : World, (Instr.typeAssert (.iface 140 (.agg #[.int .i64 s, .int .i64 q, .int .i64 n, .bool hS, .int .i64 hH, .int .i64 hL, .int .i64 t])) 80 138 true).run Tryz.prog w = .ok (.tuple #[.agg #[.int .i64 0, .int .i64 0, .int .i64 0, .bool false, .int .i64 0, .int .i64 0, .int .i64 0, .int .i64 0], .bool false]) w := fun _ => by kernel_rfl
  have a10 : ∀ w : World, (Instr.typeAssert (.iface 140 (.agg #[.int .i64 s, .int .i64 q, .int .i64 n, .bool hS, .int .i64 hH, .int .i64 hL, .int .i64 t])) 80 140 true).run Tryz.prog w = .ok (.tuple #[.agg #[.int .i64 s, .int .i64 q, .int .i64 n, .bool hS, .int .i64 hH, .int .i64 hL, .int .i64 t], .bool true]) w := fun _ => by kernel_rfl
  have CS := hidP (fun w (h : Tabs w) => sessionField_any s HI.out.s w h)
  have CQ := hidP (fun w (h : Tabs w) => seqField_any q HI.out.q w h)
  have CN := hidP (fun w (h : Tabs w) => nowField_any n HI.out.n w h)
  have CH := hidP (fun w (h : Tabs w) => hostField_any hS hH hL TH HTH.out.1 HTH.out.2 w h)
  have CT := hidP (fun w (h : Tabs w) => tokenField_any t HI.out.t w h)
  have CW := hidP (fun g m bs w h e1 e2 e3 => with_any s q n HI.out.s HI.out.q HI.out.n g m bs w h e1 e2 e3)
  generalize fT ⟨#[115, 101, 115, 115, 105, 111, 110]⟩ s = TS at *
  generalize rB 1 s 1000000 = rS at *
  generalize fT ⟨#[115, 101, 113]⟩ q = TQ at *
  generalize rB 1 q 1000000 = rQ at *
  generalize fT ⟨#[110, 111, 119]⟩ n = TN at *
  generalize rB 0 n 1000000000 = rN at *
  generalize hT TH = TH at *
  generalize okB hS hH hL = rH at *
  generalize fT ⟨#[116, 111, 107, 101, 110]⟩ t = TT at *
  generalize rB 1 t 1000000000 = rT at *
  clear HI HTH
  go_enter Tryz.func61, Tryz.ntmps61
  go_wp2_with fail
  have u0 : (y.alloc (.cells #[.int .i64 s, .int .i64 q, .int .i64 n, .bool hS, .int .i64 hH, .int .i64 hL, .int .i64 t] 140)).cell? ⟨y.heap.size, 0, none⟩ = some (.int .i64 s) := by simp [go_sem]
  have u1 : (y.alloc (.cells #[.int .i64 s, .int .i64 q, .int .i64 n, .bool hS, .int .i64 hH, .int .i64 hL, .int .i64 t] 140)).cell? ⟨y.heap.size, 1, none⟩ = some (.int .i64 q) := by simp [go_sem]
  have u2 : (y.alloc (.cells #[.int .i64 s, .int .i64 q, .int .i64 n, .bool hS, .int .i64 hH, .int .i64 hL, .int .i64 t] 140)).cell? ⟨y.heap.size, 2, none⟩ = some (.int .i64 n) := by simp [go_sem]
  have u3 : (y.alloc (.cells #[.int .i64 s, .int .i64 q, .int .i64 n, .bool hS, .int .i64 hH, .int .i64 hL, .int .i64 t] 140)).cell? ⟨y.heap.size, 3, none⟩ = some (.bool hS) := by simp [go_sem]
  have u4 : (y.alloc (.cells #[.int .i64 s, .int .i64 q, .int .i64 n, .bool hS, .int .i64 hH, .int .i64 hL, .int .i64 t] 140)).cell? ⟨y.heap.size, 4, none⟩ = some (.int .i64 hH) := by simp [go_sem]
  have u5 : (y.alloc (.cells #[.int .i64 s, .int .i64 q, .int .i64 n, .bool hS, .int .i64 hH, .int .i64 hL, .int .i64 t] 140)).cell? ⟨y.heap.size, 5, none⟩ = some (.int .i64 hL) := by simp [go_sem]
  have u6 : (y.alloc (.cells #[.int .i64 s, .int .i64 q, .int .i64 n, .bool hS, .int .i64 hH, .int .i64 hL, .int .i64 t] 140)).cell? ⟨y.heap.size, 6, none⟩ = some (.int .i64 t) := by simp [go_sem]
  have uL : y.heap.size < (y.alloc (.cells #[.int .i64 s, .int .i64 q, .int .i64 n, .bool hS, .int .i64 hH, .int .i64 hL, .int .i64 t] 140)).heap.size := by simp
  have HU := hidP ((Below.refl y.heap.size y).alloc (Nat.le_refl _) (.cells #[.int .i64 s, .int .i64 q, .int .i64 n, .bool hS, .int .i64 hH, .int .i64 hL, .int .i64 t] 140))
  generalize y.alloc (.cells #[.int .i64 s, .int .i64 q, .int .i64 n, .bool hS, .int .i64 hH, .int .i64 hL, .int .i64 t] 140) = W1 at *
  have hU := HU.out.size
  have HSx : Hid (∀ x, Below W1.heap.size W1 x → (x.cell? ⟨y.heap.size, 0, none⟩ = some (.int .i64 s) ∧ x.cell? ⟨y.heap.size, 1, none⟩ = some (.int .i64 q) ∧ x.cell? ⟨y.heap.size, 2, none⟩ = some (.int .i64 n) ∧ x.cell? ⟨y.heap.size, 3, none⟩ = some (.bool hS) ∧ x.cell? ⟨y.heap.size, 4, none⟩ = some (.int .i64 hH) ∧ x.cell? ⟨y.heap.size, 5, none⟩ = some (.int .i64 hL) ∧ x.cell? ⟨y.heap.size, 6, none⟩ = some (.int .i64 t) ∧ Below W1.heap.size W1 x)) := hidP fun x h =>
    ⟨(h.cell uL).trans u0, (h.cell uL).trans u1, (h.cell uL).trans u2, (h.cell uL).trans u3, (h.cell uL).trans u4, (h.cell uL).trans u5, (h.cell uL).trans u6, h⟩
  refine wp_region_held_drew (S := (fun x => x.cell? ⟨y.heap.size, 0, none⟩ = some (.int .i64 s) ∧ x.cell? ⟨y.heap.size, 1, none⟩ = some (.int .i64 q) ∧ x.cell? ⟨y.heap.size, 2, none⟩ = some (.int .i64 n) ∧ x.cell? ⟨y.heap.size, 3, none⟩ = some (.bool hS) ∧ x.cell? ⟨y.heap.size, 4, none⟩ = some (.int .i64 hH) ∧ x.cell? ⟨y.heap.size, 5, none⟩ = some (.int .i64 hL) ∧ x.cell? ⟨y.heap.size, 6, none⟩ = some (.int .i64 t) ∧ Below W1.heap.size W1 x)) (by kernel_rfl) ?_ (fun hHeld => ?_)
  · try dsimp only
    exact HSx.out _ ((Below.refl _ _).drew)
  refine tkA 0 132 (v := ?_) rfl (by kernel_rfl) (fun _ _ _ h => h) (by rfl) ?_ (by assumption) ?_; rotate_left; · (intro w hSw; (try dsimp only at hSw); go_simp; try with_reducible rfl)
  simp only [pa]
  refine tkA 1 133 (v := ?_) rfl (by kernel_rfl) (fun _ _ _ h => h) (by rfl) ?_ (by assumption) ?_; rotate_left; · (intro w hSw; (try dsimp only at hSw); go_simp; try with_reducible rfl)
  simp only [pa]
  refine tkA 2 134 (v := ?_) rfl (by kernel_rfl) (fun _ _ _ h => h) (by rfl) ?_ (by assumption) ?_; rotate_left; · (intro w hSw; (try dsimp only at hSw); go_simp; try with_reducible rfl)
  simp only [pa]
  refine tkA 3 135 (v := ?_) rfl (by kernel_rfl) (fun _ _ _ h => h) (by rfl) ?_ (by assumption) ?_; rotate_left; · (intro w hSw; (try dsimp only at hSw); go_simp; try with_reducible rfl)
  simp only [pa]
  refine tkA 5 137 (v := ?_) rfl (by kernel_rfl) (fun _ _ _ h => h) (by rfl) ?_ (by assumption) ?_; rotate_left; · (intro w hSw; (try dsimp only at hSw); go_simp; try with_reducible rfl)
  simp only [pa]
  refine tkA 6 138 (v := ?_) rfl (by kernel_rfl) (fun _ _ _ h => h) (by rfl) ?_ (by assumption) ?_; rotate_left; · (intro w hSw; (try dsimp only at hSw); go_simp; try with_reducible rfl)
  simp only [pa]
  refine wpAnyH_ready (rs := [4]) (by kernel_rfl) (by simp) ?_
  refine AllReadyH.cons rfl (fun K hK => ?_) AllReadyH.nil
  go_simp
  go_wp2_with (first | (go_at_call 80; refine (CH.out _ (HT.out.below (HU.out.trans ((hHeld.2.2.2.2.2.2.2).mono hU)))).mono ?_; rintro e w2 ⟨rfl, hb2⟩; have b2 := (hHeld.2.2.2.2.2.2.2).trans (hb2.mono (hHeld.2.2.2.2.2.2.2).size)))
  refine hK.out _ _ ?_ (fun hHeld => ?_)
  · try dsimp only
    exact HSx.out _ b2
  clear hK K
  refine wpAnyH_ready (rs := [7]) (by kernel_rfl) (by simp) ?_
  refine AllReadyH.cons rfl (fun K hK => ?_) AllReadyH.nil
  go_simp
  go_wp2_with (first | (go_at_call 81; refine (CT.out _ (HT.out.below (HU.out.trans ((hHeld.2.2.2.2.2.2.2).mono hU)))).mono ?_; rintro e w3 ⟨rfl, hb3⟩; have b3 := (hHeld.2.2.2.2.2.2.2).trans (hb3.mono (hHeld.2.2.2.2.2.2.2).size)))
  refine hK.out _ _ ?_ (fun hHeld => ?_)
  · try dsimp only
    exact HSx.out _ b3
  clear hK K
  refine wpAnyH_ready (rs := [8]) (by kernel_rfl) (by simp) ?_
  refine AllReadyH.cons rfl (fun K hK => ?_) AllReadyH.nil
  go_simp
  have bA := (hHeld.2.2.2.2.2.2.2).alloc (hHeld.2.2.2.2.2.2.2).size (.cells #[.string TH, .bool rH, .string TT, .bool rT] 106)
  refine hK.out _ _ ?_ (fun hHeld => ?_)
  · try dsimp only
    exact HSx.out _ bA
  clear hK K
  refine wpAnyH_ready (rs := [9]) (by kernel_rfl) (by simp) ?_
  refine AllReadyH.cons rfl (fun K hK => ?_) AllReadyH.nil
  go_simp
  go_wp2_with (first | (go_at_call 75; refine (CW.out w3.heap.size 2 [(TH, rH), (TT, rT)] _ (HT.out.below (HU.out.trans ((hHeld.2.2.2.2.2.2.2).mono hU))) rfl (by omega) (own_manyG KF w3 0 106 [(TH, rH), (TT, rT)] #[.string TH, .bool rH, .string TT, .bool rT] rfl 2 rfl (by omega) (Nat.zero_le _)).row).mono ?_; rintro e w4 ⟨a9, c9, rfl, ho9, hb4⟩; have b4 := (hHeld.2.2.2.2.2.2.2).trans (hb4.mono (hHeld.2.2.2.2.2.2.2).size)))
  refine hK.out _ _ ?_ (fun hHeld => ?_)
  · try dsimp only
    exact HSx.out _ b4
  clear hK K
  refine tkA 10 2 (v := ?_) rfl (by kernel_rfl) (fun _ _ _ h => h) (by rfl) ?_ (by assumption) ?_; rotate_left; · (intro w hSw; (try dsimp only at hSw); go_simp; try with_reducible rfl)
  simp only [Act.put, List.setIfInBounds_toArray]
  have HE := hidP (hHeld.2.2.2.2.2.2.2)
  refine wpAnyH_done (by kernel_rfl) ?_ _
  clear hHeld
  have hA := bA.size
  go_wp2_with fail
  go_ret
  exact ⟨a9, c9, by simp, ho9.mono (by simp; simp at hA; omega), HU.out.trans (HE.out.mono hU)⟩

end Go.Proofs.YtnchndcanhmbeaaGreatDoor
namespace Go.Proofs.YtnchndcanhmbeaaGreatDoor
open Go.RowKit

set_option maxRecDepth 10000 in
set_option maxHeartbeats 4000000 in
theorem oo_8 (p : Nat) (s q n : Int) (aS : Bool) (aH aL ab b : Int) (hS : Bool) (hH hL : Int) (o : ByteArray) (t sp : Int) (x : World) (h : Bx x p [.int .i64 8, .int .i64 s, .int .i64 q, .int .i64 n, .bool aS, .int .i64 aH, .int .i64 aL, .int .i64 ab, .int .i64 b, .bool hS, .int .i64 hH, .int .i64 hL, .string o, .int .i64 t, .int .i64 sp]) :
    Calls Tryz.prog 60 #[.pointer (some ⟨p, 0, none⟩)] x fun e w' => e = .returned (.iface 136 (.agg #[.int .i64 s, .int .i64 q, .int .i64 n, .bool hS, .int .i64 hH, .int .i64 hL, .string o, .int .i64 sp])) ∧ Bx w' p [.int .i64 0, .int .i64 0, .int .i64 0, .int .i64 0, .bool aS, .int .i64 aH, .int .i64 aL, .int .i64 ab, .int .i64 b, .bool false, .int .i64 0, .int .i64 0, .string ⟨#[]⟩, .int .i64 t, .int .i64 0] ∧ Kp p x w' := by
  have hLt := h.lt
  have HX := hidP h
  clear h
  go_enter Tryz.func60, Tryz.ntmps60
  go_wp2_with (first | (go_at_call_of 68 (Value.pointer (some (⟨p, 0, none⟩ : Addr))); refine (takeI p 0 [.int .i64 8, .int .i64 s, .int .i64 q, .int .i64 n, .bool aS, .int .i64 aH, .int .i64 aL, .int .i64 ab, .int .i64 b, .bool hS, .int .i64 hH, .int .i64 hL, .string o, .int .i64 t, .int .i64 sp] (8) _ (by repeat (first | with_reducible exact HX.out | (with_reducible refine Bx.drew ?_) | (with_reducible refine Bx.alloc ?_ _))) rfl).mono ?_; rintro e w1 ⟨rfl, hx1, hk1⟩; have HX1 : Hid (Bx w1 p [.int .i64 0, .int .i64 s, .int .i64 q, .int .i64 n, .bool aS, .int .i64 aH, .int .i64 aL, .int .i64 ab, .int .i64 b, .bool hS, .int .i64 hH, .int .i64 hL, .string o, .int .i64 t, .int .i64 sp]) := hidP hx1; have HK1 := hidP hk1;  clear hx1 hk1))
  go_region_with (first | (go_at_call_of 69 (Value.pointer (some (⟨p, 0, none⟩ : Addr))); refine (reqOut p 0 s q n aS aH aL ab b hS hH hL o t sp _ (by repeat (first | with_reducible exact HX.out | with_reducible exact HX1.out | (with_reducible refine Bx.drew ?_) | (with_reducible refine Bx.alloc ?_ _)))).mono ?_; rintro e w2 ⟨rfl, hx2, hk2⟩; have HX2 : Hid (Bx w2 p [.int .i64 0, .int .i64 0, .int .i64 0, .int .i64 0, .bool aS, .int .i64 aH, .int .i64 aL, .int .i64 ab, .int .i64 b, .bool hS, .int .i64 hH, .int .i64 hL, .string o, .int .i64 t, .int .i64 sp]) := hidP hx2; have HK2 := hidP hk2;  clear hx2 hk2) | (go_at_call_of 72 (Value.pointer (some (⟨p, 9, none⟩ : Addr))); refine (takeA p 9 [.int .i64 0, .int .i64 0, .int .i64 0, .int .i64 0, .bool aS, .int .i64 aH, .int .i64 aL, .int .i64 ab, .int .i64 b, .bool hS, .int .i64 hH, .int .i64 hL, .string o, .int .i64 t, .int .i64 sp] hS hH hL _ (by repeat (first | with_reducible exact HX.out | with_reducible exact HX1.out | with_reducible exact HX2.out | (with_reducible refine Bx.drew ?_) | (with_reducible refine Bx.alloc ?_ _))) rfl rfl rfl).mono ?_; rintro e w3 ⟨rfl, hx3, hk3⟩; have HX3 : Hid (Bx w3 p [.int .i64 0, .int .i64 0, .int .i64 0, .int .i64 0, .bool aS, .int .i64 aH, .int .i64 aL, .int .i64 ab, .int .i64 b, .bool false, .int .i64 0, .int .i64 0, .string o, .int .i64 t, .int .i64 sp]) := hidP hx3; have HK3 := hidP hk3;  clear hx3 hk3) | (go_at_call_of 71 (Value.pointer (some (⟨p, 12, none⟩ : Addr))); refine (takeS p 12 [.int .i64 0, .int .i64 0, .int .i64 0, .int .i64 0, .bool aS, .int .i64 aH, .int .i64 aL, .int .i64 ab, .int .i64 b, .bool false, .int .i64 0, .int .i64 0, .string o, .int .i64 t, .int .i64 sp] o _ (by repeat (first | with_reducible exact HX.out | with_reducible exact HX1.out | with_reducible exact HX2.out | with_reducible exact HX3.out | (with_reducible refine Bx.drew ?_) | (with_reducible refine Bx.alloc ?_ _))) rfl).mono ?_; rintro e w4 ⟨rfl, hx4, hk4⟩; have HX4 : Hid (Bx w4 p [.int .i64 0, .int .i64 0, .int .i64 0, .int .i64 0, .bool aS, .int .i64 aH, .int .i64 aL, .int .i64 ab, .int .i64 b, .bool false, .int .i64 0, .int .i64 0, .string ⟨#[]⟩, .int .i64 t, .int .i64 sp]) := hidP hx4; have HK4 := hidP hk4;  clear hx4 hk4) | (go_at_call_of 68 (Value.pointer (some (⟨p, 14, none⟩ : Addr))); refine (takeI p 14 [.int .i64 0, .int .i64 0, .int .i64 0, .int .i64 0, .bool aS, .int .i64 aH, .int .i64 aL, .int .i64 ab, .int .i64 b, .bool false, .int .i64 0, .int .i64 0, .string ⟨#[]⟩, .int .i64 t, .int .i64 sp] (sp) _ (by repeat (first | with_reducible exact HX.out | with_reducible exact HX1.out | with_reducible exact HX2.out | with_reducible exact HX3.out | with_reducible exact HX4.out | (with_reducible refine Bx.drew ?_) | (with_reducible refine Bx.alloc ?_ _))) rfl).mono ?_; rintro e w5 ⟨rfl, hx5, hk5⟩; have HX5 : Hid (Bx w5 p [.int .i64 0, .int .i64 0, .int .i64 0, .int .i64 0, .bool aS, .int .i64 aH, .int .i64 aL, .int .i64 ab, .int .i64 b, .bool false, .int .i64 0, .int .i64 0, .string ⟨#[]⟩, .int .i64 t, .int .i64 0]) := hidP hx5; have HK5 := hidP hk5;  clear hx5 hk5))
  all_goals
    go_wp2_with fail
    go_ret
    refine ⟨rfl, HX5.out, ?_⟩
    repeat (first | with_reducible exact Kp.refl _ _ | (with_reducible refine Kp.trans ?_ HK5.out) | (with_reducible refine Kp.trans ?_ HK4.out) | (with_reducible refine Kp.trans ?_ HK3.out) | (with_reducible refine Kp.trans ?_ HK2.out) | (with_reducible refine Kp.trans ?_ HK1.out) | (with_reducible refine Kp.more ?_ (by omega) _) | (with_reducible refine Kp.trans ?_ (Kp.drew _ _)) | (with_reducible refine Kp.setNew ?_ (by omega) (by first | omega | (simp; done) | (simp; omega)) _))

set_option maxRecDepth 10000 in
set_option maxHeartbeats 4000000 in
theorem oo_9 (p : Nat) (s q n : Int) (aS : Bool) (aH aL ab b : Int) (hS : Bool) (hH hL : Int) (o : ByteArray) (t sp : Int) (x : World) (h : Bx x p [.int .i64 9, .int .i64 s, .int .i64 q, .int .i64 n, .bool aS, .int .i64 aH, .int .i64 aL, .int .i64 ab, .int .i64 b, .bool hS, .int .i64 hH, .int .i64 hL, .string o, .int .i64 t, .int .i64 sp]) :
    Calls Tryz.prog 60 #[.pointer (some ⟨p, 0, none⟩)] x fun e w' => e = .returned (.iface 138 (.agg #[.int .i64 s, .int .i64 q, .int .i64 n, .bool hS, .int .i64 hH, .int .i64 hL, .int .i64 t, .int .i64 sp])) ∧ Bx w' p [.int .i64 0, .int .i64 0, .int .i64 0, .int .i64 0, .bool aS, .int .i64 aH, .int .i64 aL, .int .i64 ab, .int .i64 b, .bool false, .int .i64 0, .int .i64 0, .string o, .int .i64 0, .int .i64 0] ∧ Kp p x w' := by
  have hLt := h.lt
  have HX := hidP h
  clear h
  go_enter Tryz.func60, Tryz.ntmps60
  go_wp2_with (first | (go_at_call_of 68 (Value.pointer (some (⟨p, 0, none⟩ : Addr))); refine (takeI p 0 [.int .i64 9, .int .i64 s, .int .i64 q, .int .i64 n, .bool aS, .int .i64 aH, .int .i64 aL, .int .i64 ab, .int .i64 b, .bool hS, .int .i64 hH, .int .i64 hL, .string o, .int .i64 t, .int .i64 sp] (9) _ (by repeat (first | with_reducible exact HX.out | (with_reducible refine Bx.drew ?_) | (with_reducible refine Bx.alloc ?_ _))) rfl).mono ?_; rintro e w1 ⟨rfl, hx1, hk1⟩; have HX1 : Hid (Bx w1 p [.int .i64 0, .int .i64 s, .int .i64 q, .int .i64 n, .bool aS, .int .i64 aH, .int .i64 aL, .int .i64 ab, .int .i64 b, .bool hS, .int .i64 hH, .int .i64 hL, .string o, .int .i64 t, .int .i64 sp]) := hidP hx1; have HK1 := hidP hk1;  clear hx1 hk1))
  go_region_with (first | (go_at_call_of 69 (Value.pointer (some (⟨p, 0, none⟩ : Addr))); refine (reqOut p 0 s q n aS aH aL ab b hS hH hL o t sp _ (by repeat (first | with_reducible exact HX.out | with_reducible exact HX1.out | (with_reducible refine Bx.drew ?_) | (with_reducible refine Bx.alloc ?_ _)))).mono ?_; rintro e w2 ⟨rfl, hx2, hk2⟩; have HX2 : Hid (Bx w2 p [.int .i64 0, .int .i64 0, .int .i64 0, .int .i64 0, .bool aS, .int .i64 aH, .int .i64 aL, .int .i64 ab, .int .i64 b, .bool hS, .int .i64 hH, .int .i64 hL, .string o, .int .i64 t, .int .i64 sp]) := hidP hx2; have HK2 := hidP hk2;  clear hx2 hk2) | (go_at_call_of 72 (Value.pointer (some (⟨p, 9, none⟩ : Addr))); refine (takeA p 9 [.int .i64 0, .int .i64 0, .int .i64 0, .int .i64 0, .bool aS, .int .i64 aH, .int .i64 aL, .int .i64 ab, .int .i64 b, .bool hS, .int .i64 hH, .int .i64 hL, .string o, .int .i64 t, .int .i64 sp] hS hH hL _ (by repeat (first | with_reducible exact HX.out | with_reducible exact HX1.out | with_reducible exact HX2.out | (with_reducible refine Bx.drew ?_) | (with_reducible refine Bx.alloc ?_ _))) rfl rfl rfl).mono ?_; rintro e w3 ⟨rfl, hx3, hk3⟩; have HX3 : Hid (Bx w3 p [.int .i64 0, .int .i64 0, .int .i64 0, .int .i64 0, .bool aS, .int .i64 aH, .int .i64 aL, .int .i64 ab, .int .i64 b, .bool false, .int .i64 0, .int .i64 0, .string o, .int .i64 t, .int .i64 sp]) := hidP hx3; have HK3 := hidP hk3;  clear hx3 hk3) | (go_at_call_of 68 (Value.pointer (some (⟨p, 13, none⟩ : Addr))); refine (takeI p 13 [.int .i64 0, .int .i64 0, .int .i64 0, .int .i64 0, .bool aS, .int .i64 aH, .int .i64 aL, .int .i64 ab, .int .i64 b, .bool false, .int .i64 0, .int .i64 0, .string o, .int .i64 t, .int .i64 sp] (t) _ (by repeat (first | with_reducible exact HX.out | with_reducible exact HX1.out | with_reducible exact HX2.out | with_reducible exact HX3.out | (with_reducible refine Bx.drew ?_) | (with_reducible refine Bx.alloc ?_ _))) rfl).mono ?_; rintro e w4 ⟨rfl, hx4, hk4⟩; have HX4 : Hid (Bx w4 p [.int .i64 0, .int .i64 0, .int .i64 0, .int .i64 0, .bool aS, .int .i64 aH, .int .i64 aL, .int .i64 ab, .int .i64 b, .bool false, .int .i64 0, .int .i64 0, .string o, .int .i64 0, .int .i64 sp]) := hidP hx4; have HK4 := hidP hk4;  clear hx4 hk4) | (go_at_call_of 68 (Value.pointer (some (⟨p, 14, none⟩ : Addr))); refine (takeI p 14 [.int .i64 0, .int .i64 0, .int .i64 0, .int .i64 0, .bool aS, .int .i64 aH, .int .i64 aL, .int .i64 ab, .int .i64 b, .bool false, .int .i64 0, .int .i64 0, .string o, .int .i64 0, .int .i64 sp] (sp) _ (by repeat (first | with_reducible exact HX.out | with_reducible exact HX1.out | with_reducible exact HX2.out | with_reducible exact HX3.out | with_reducible exact HX4.out | (with_reducible refine Bx.drew ?_) | (with_reducible refine Bx.alloc ?_ _))) rfl).mono ?_; rintro e w5 ⟨rfl, hx5, hk5⟩; have HX5 : Hid (Bx w5 p [.int .i64 0, .int .i64 0, .int .i64 0, .int .i64 0, .bool aS, .int .i64 aH, .int .i64 aL, .int .i64 ab, .int .i64 b, .bool false, .int .i64 0, .int .i64 0, .string o, .int .i64 0, .int .i64 0]) := hidP hx5; have HK5 := hidP hk5;  clear hx5 hk5))
  all_goals
    go_wp2_with fail
    go_ret
    refine ⟨rfl, HX5.out, ?_⟩
    repeat (first | with_reducible exact Kp.refl _ _ | (with_reducible refine Kp.trans ?_ HK5.out) | (with_reducible refine Kp.trans ?_ HK4.out) | (with_reducible refine Kp.trans ?_ HK3.out) | (with_reducible refine Kp.trans ?_ HK2.out) | (with_reducible refine Kp.trans ?_ HK1.out) | (with_reducible refine Kp.more ?_ (by omega) _) | (with_reducible refine Kp.trans ?_ (Kp.drew _ _)) | (with_reducible refine Kp.setNew ?_ (by omega) (by first | omega | (simp; done) | (simp; omega)) _))

set_option maxRecDepth 10000 in
set_option maxHeartbeats 4000000 in
theorem oo_10 (p : Nat) (s q n : Int) (aS : Bool) (aH aL ab b : Int) (hS : Bool) (hH hL : Int) (o : ByteArray) (t sp : Int) (x : World) (h : Bx x p [.int .i64 10, .int .i64 s, .int .i64 q, .int .i64 n, .bool aS, .int .i64 aH, .int .i64 aL, .int .i64 ab, .int .i64 b, .bool hS, .int .i64 hH, .int .i64 hL, .string o, .int .i64 t, .int .i64 sp]) :
    Calls Tryz.prog 60 #[.pointer (some ⟨p, 0, none⟩)] x fun e w' => e = .returned (.iface 140 (.agg #[.int .i64 s, .int .i64 q, .int .i64 n, .bool hS, .int .i64 hH, .int .i64 hL, .int .i64 t])) ∧ Bx w' p [.int .i64 0, .int .i64 0, .int .i64 0, .int .i64 0, .bool aS, .int .i64 aH, .int .i64 aL, .int .i64 ab, .int .i64 b, .bool false, .int .i64 0, .int .i64 0, .string o, .int .i64 0, .int .i64 sp] ∧ Kp p x w' := by
  have hLt := h.lt
  have HX := hidP h
  clear h
  go_enter Tryz.func60, Tryz.ntmps60
  go_wp2_with (first | (go_at_call_of 68 (Value.pointer (some (⟨p, 0, none⟩ : Addr))); refine (takeI p 0 [.int .i64 10, .int .i64 s, .int .i64 q, .int .i64 n, .bool aS, .int .i64 aH, .int .i64 aL, .int .i64 ab, .int .i64 b, .bool hS, .int .i64 hH, .int .i64 hL, .string o, .int .i64 t, .int .i64 sp] (10) _ (by repeat (first | with_reducible exact HX.out | (with_reducible refine Bx.drew ?_) | (with_reducible refine Bx.alloc ?_ _))) rfl).mono ?_; rintro e w1 ⟨rfl, hx1, hk1⟩; have HX1 : Hid (Bx w1 p [.int .i64 0, .int .i64 s, .int .i64 q, .int .i64 n, .bool aS, .int .i64 aH, .int .i64 aL, .int .i64 ab, .int .i64 b, .bool hS, .int .i64 hH, .int .i64 hL, .string o, .int .i64 t, .int .i64 sp]) := hidP hx1; have HK1 := hidP hk1;  clear hx1 hk1))
  go_region_with (first | (go_at_call_of 69 (Value.pointer (some (⟨p, 0, none⟩ : Addr))); refine (reqOut p 0 s q n aS aH aL ab b hS hH hL o t sp _ (by repeat (first | with_reducible exact HX.out | with_reducible exact HX1.out | (with_reducible refine Bx.drew ?_) | (with_reducible refine Bx.alloc ?_ _)))).mono ?_; rintro e w2 ⟨rfl, hx2, hk2⟩; have HX2 : Hid (Bx w2 p [.int .i64 0, .int .i64 0, .int .i64 0, .int .i64 0, .bool aS, .int .i64 aH, .int .i64 aL, .int .i64 ab, .int .i64 b, .bool hS, .int .i64 hH, .int .i64 hL, .string o, .int .i64 t, .int .i64 sp]) := hidP hx2; have HK2 := hidP hk2;  clear hx2 hk2) | (go_at_call_of 72 (Value.pointer (some (⟨p, 9, none⟩ : Addr))); refine (takeA p 9 [.int .i64 0, .int .i64 0, .int .i64 0, .int .i64 0, .bool aS, .int .i64 aH, .int .i64 aL, .int .i64 ab, .int .i64 b, .bool hS, .int .i64 hH, .int .i64 hL, .string o, .int .i64 t, .int .i64 sp] hS hH hL _ (by repeat (first | with_reducible exact HX.out | with_reducible exact HX1.out | with_reducible exact HX2.out | (with_reducible refine Bx.drew ?_) | (with_reducible refine Bx.alloc ?_ _))) rfl rfl rfl).mono ?_; rintro e w3 ⟨rfl, hx3, hk3⟩; have HX3 : Hid (Bx w3 p [.int .i64 0, .int .i64 0, .int .i64 0, .int .i64 0, .bool aS, .int .i64 aH, .int .i64 aL, .int .i64 ab, .int .i64 b, .bool false, .int .i64 0, .int .i64 0, .string o, .int .i64 t, .int .i64 sp]) := hidP hx3; have HK3 := hidP hk3;  clear hx3 hk3) | (go_at_call_of 68 (Value.pointer (some (⟨p, 13, none⟩ : Addr))); refine (takeI p 13 [.int .i64 0, .int .i64 0, .int .i64 0, .int .i64 0, .bool aS, .int .i64 aH, .int .i64 aL, .int .i64 ab, .int .i64 b, .bool false, .int .i64 0, .int .i64 0, .string o, .int .i64 t, .int .i64 sp] (t) _ (by repeat (first | with_reducible exact HX.out | with_reducible exact HX1.out | with_reducible exact HX2.out | with_reducible exact HX3.out | (with_reducible refine Bx.drew ?_) | (with_reducible refine Bx.alloc ?_ _))) rfl).mono ?_; rintro e w4 ⟨rfl, hx4, hk4⟩; have HX4 : Hid (Bx w4 p [.int .i64 0, .int .i64 0, .int .i64 0, .int .i64 0, .bool aS, .int .i64 aH, .int .i64 aL, .int .i64 ab, .int .i64 b, .bool false, .int .i64 0, .int .i64 0, .string o, .int .i64 0, .int .i64 sp]) := hidP hx4; have HK4 := hidP hk4;  clear hx4 hk4))
  all_goals
    go_wp2_with fail
    go_ret
    refine ⟨rfl, HX4.out, ?_⟩
    repeat (first | with_reducible exact Kp.refl _ _ | (with_reducible refine Kp.trans ?_ HK4.out) | (with_reducible refine Kp.trans ?_ HK3.out) | (with_reducible refine Kp.trans ?_ HK2.out) | (with_reducible refine Kp.trans ?_ HK1.out) | (with_reducible refine Kp.more ?_ (by omega) _) | (with_reducible refine Kp.trans ?_ (Kp.drew _ _)) | (with_reducible refine Kp.setNew ?_ (by omega) (by first | omega | (simp; done) | (simp; omega)) _))

end Go.Proofs.YtnchndcanhmbeaaGreatDoor
namespace Go.Proofs.YtnchndcanhmbeaaGreatDoor
open Go.RowKit

set_option maxRecDepth 10000 in
set_option maxHeartbeats 4000000 in
theorem ro_8 (s q n : Int) (aS : Bool) (aH aL : BitVec 64) (ab b : Int) (hS : Bool) (hH hL : Int) (o : ByteArray) (t sp : Int) (TA TH : List UInt8) (HI : Hid (CmI s q n b t sp o)) (HTA : Hid (TA.length ≤ 200 ∧ ∀ w : World, Tabs w → Calls Tryz.prog 84 #[.agg #[.bool aS, .int .i64 aH.toInt, .int .i64 aL.toInt, .int .i64 ab]] w fun e w' => e = .returned (.string ⟨TA.toArray⟩) ∧ Below w.heap.size w w')) (HTH : Hid (TH.length ≤ 200 ∧ ∀ w : World, Tabs w → Calls Tryz.prog 87 #[.agg #[.bool hS, .int .i64 hH, .int .i64 hL]] w fun e w' => e = .returned (.string ⟨TH.toArray⟩) ∧ Below w.heap.size w w')) (y : World) (ht : Tabs y) :
    Calls Tryz.prog 47 #[.agg #[.int .i64 8, .int .i64 s, .int .i64 q, .int .i64 n, .bool aS, .int .i64 aH.toInt, .int .i64 aL.toInt, .int .i64 ab, .int .i64 b, .bool hS, .int .i64 hH, .int .i64 hL, .string o, .int .i64 t, .int .i64 sp]] y fun e w' => (((zCm (0) (0) (0) (0) (aS) (aH.toInt) (aL.toInt) (ab) (b) (false) (0) (0) (⟨#[]⟩) (t) (0) && [((fT ⟨#[115, 101, 115, 115, 105, 111, 110]⟩ s), (rB 1 s 1000000)), ((fT ⟨#[115, 101, 113]⟩ q), (rB 1 q 1000000)), ((fT ⟨#[110, 111, 119]⟩ n), (rB 0 n 1000000000)), ((hT TH), (okB hS hH hL)), ((oT o), (ownB o)), ((fT ⟨#[115, 112, 97, 110]⟩ sp), (rB 1 sp 1000))].all (fun z => z.2)) = true ∧ e = .returned (.tuple #[.iface 136 (.agg #[.int .i64 s, .int .i64 q, .int .i64 n, .bool hS, .int .i64 hH, .int .i64 hL, .string o, .int .i64 sp]), .bool true])) ∨ ((zCm (0) (0) (0) (0) (aS) (aH.toInt) (aL.toInt) (ab) (b) (false) (0) (0) (⟨#[]⟩) (t) (0) && [((fT ⟨#[115, 101, 115, 115, 105, 111, 110]⟩ s), (rB 1 s 1000000)), ((fT ⟨#[115, 101, 113]⟩ q), (rB 1 q 1000000)), ((fT ⟨#[110, 111, 119]⟩ n), (rB 0 n 1000000000)), ((hT TH), (okB hS hH hL)), ((oT o), (ownB o)), ((fT ⟨#[115, 112, 97, 110]⟩ sp), (rB 1 sp 1000))].all (fun z => z.2)) = false ∧ e = .returned (.tuple #[.nilIface, .bool false]))) ∧ Below y.heap.size y w' := by
  have HT := hidP ht
  have HFO := hidP (fun w (h : Tabs w) => fo_8 s q n aS aH aL ab b hS hH hL o t sp TA TH HI HTA HTH w h)
  have hlen : [((fT ⟨#[115, 101, 115, 115, 105, 111, 110]⟩ s), (rB 1 s 1000000)), ((fT ⟨#[115, 101, 113]⟩ q), (rB 1 q 1000000)), ((fT ⟨#[110, 111, 119]⟩ n), (rB 0 n 1000000000)), ((hT TH), (okB hS hH hL)), ((oT o), (ownB o)), ((fT ⟨#[115, 112, 97, 110]⟩ sp), (rB 1 sp 1000))].length = 6 := rfl
  generalize [((fT ⟨#[115, 101, 115, 115, 105, 111, 110]⟩ s), (rB 1 s 1000000)), ((fT ⟨#[115, 101, 113]⟩ q), (rB 1 q 1000000)), ((fT ⟨#[110, 111, 119]⟩ n), (rB 0 n 1000000000)), ((hT TH), (okB hS hH hL)), ((oT o), (ownB o)), ((fT ⟨#[115, 112, 97, 110]⟩ sp), (rB 1 sp 1000))] = fl at *
  have HL := hidP hlen
  obtain ⟨R, hR⟩ : ∃ R : Bool, R = (zCm (0) (0) (0) (0) (aS) (aH.toInt) (aL.toInt) (ab) (b) (false) (0) (0) (⟨#[]⟩) (t) (0) && fl.all (fun z => z.2)) := ⟨_, rfl⟩
  rw [← hR]
  have HR0 := hidP hR
  clear hR
  clear ht hlen HI HTA HTH
  go_enter Tryz.func47, Tryz.ntmps47
  go_wp2_with fail
  have HX0 := hidP (Bx.new y [.int .i64 8, .int .i64 s, .int .i64 q, .int .i64 n, .bool aS, .int .i64 aH.toInt, .int .i64 aL.toInt, .int .i64 ab, .int .i64 b, .bool hS, .int .i64 hH, .int .i64 hL, .string o, .int .i64 t, .int .i64 sp] 35)
  have HU := hidP ((Below.refl y.heap.size y).alloc (Nat.le_refl _) (.cells #[.int .i64 8, .int .i64 s, .int .i64 q, .int .i64 n, .bool aS, .int .i64 aH.toInt, .int .i64 aL.toInt, .int .i64 ab, .int .i64 b, .bool hS, .int .i64 hH, .int .i64 hL, .string o, .int .i64 t, .int .i64 sp] 35))
  refine (oo_8 y.heap.size s q n aS aH.toInt aL.toInt ab b hS hH hL o t sp _ HX0.out).mono ?_
  rintro e w1 ⟨rfl, hx, hk⟩
  have c0 := hx.cel 0 _ rfl
  have c1 := hx.cel 1 _ rfl
  have c2 := hx.cel 2 _ rfl
  have c3 := hx.cel 3 _ rfl
  have c4 := hx.cel 4 _ rfl
  have c5 := hx.cel 5 _ rfl
  have c6 := hx.cel 6 _ rfl
  have c7 := hx.cel 7 _ rfl
  have c8 := hx.cel 8 _ rfl
  have c9 := hx.cel 9 _ rfl
  have c10 := hx.cel 10 _ rfl
  have c11 := hx.cel 11 _ rfl
  have c12 := hx.cel 12 _ rfl
  have c13 := hx.cel 13 _ rfl
  have c14 := hx.cel 14 _ rfl
  have HB1 := hidP (HU.out.trans hk.low)
  have h1 : y.heap.size ≤ w1.heap.size := HB1.out.size
  have hq := eqCm (0) (0) (0) (0) (aS) (aH.toInt) (aL.toInt) (ab) (b) (false) (0) (0) (⟨#[]⟩) (t) (0)
  clear hx hk HX0 HU
  generalize zCm (0) (0) (0) (0) (aS) (aH.toInt) (aL.toInt) (ab) (b) (false) (0) (0) (⟨#[]⟩) (t) (0) = Z at *
  cases Z
  · have HR : Hid ((false && fl.all (fun z => z.2)) = false) := hidP rfl
    go_wp2_with fail
    go_ret2
    exact ⟨Or.inr ⟨by rw [HR0.out]; exact HR.out, rfl⟩, HB1.out⟩
  · go_wp2_with fail
    refine (HFO.out _ (HT.out.below HB1.out)).mono ?_
    rintro e w2 ⟨a, c, rfl, ho, hb2⟩
    have HB2 := hidP (HB1.out.trans (hb2.mono h1))
    have h2 := HB2.out.size
    have HRow := hidP ho.row
    clear hb2 ho c0 c1 c2 c3 c4 c5 c6 c7 c8 c9 c10 c11 c12 c13 c14 hq
    go_wp2_with fail
    go_loopw [18] (fun t18 x => ∃ k : Nat, k ≤ 6 ∧ t18 = .int .i64 k ∧ Hid ((fl.take k).all (fun z => z.2) = true) ∧ Hid (Below w2.heap.size w2 x)) (fun t18 _ => 6 - (intOf t18).toNat)
    case atStart => exact ⟨0, by omega, rfl, hidP (by simp), hidP (Below.refl _ _)⟩
    case round =>
      obtain ⟨k, hk, rfl, HA, HB⟩ := hrel
      have h3 := HB.out.size
      by_cases hlt : k < 6
      · obtain ⟨p, o', z, rfl, hp, hz, d0, d1⟩ := rowF HRow.out k (by rw [HL.out]; exact hlt)
        have e0 := (HB.out.cell hp).trans d0
        have e1 := (HB.out.cell hp).trans d1
        have hlt' : (k : Int) < 6 := by omega
        have HS := hidP (all_snoc hz)
        have HN := hidP (all_not hz)
        clear d0 d1 hz
        obtain ⟨zt, zf⟩ := z
        cases zf
        · have HR : Hid ((true && fl.all (fun z => z.2)) = false) := hidP (by rw [Bool.true_and]; exact HN.out rfl)
          go_wp2_with fail
          go_ret2
          exact ⟨Or.inr ⟨by rw [HR0.out]; exact HR.out, rfl⟩, (HB2.out.trans (HB.out.mono h2)).alloc (by omega) _⟩
        · go_wp2_with fail
          go_roundw
          case rel => exact ⟨k + 1, by omega, by go_num, hidP (by rw [HS.out, HA.out]; rfl), hidP (HB.out.alloc h3 _)⟩
          case measure => simp [intOf]; omega
      · have HR : Hid ((true && fl.all (fun z => z.2)) = true) := hidP (by rw [Bool.true_and]; have := HA.out; rw [List.take_of_length_le (by rw [HL.out]; omega)] at this; exact this)
        have hkn : k = 6 := by omega
        subst hkn
        go_wp2_with fail
        go_ret2
        exact ⟨Or.inl ⟨by rw [HR0.out]; exact HR.out, rfl⟩, HB2.out.trans (HB.out.mono h2)⟩

set_option maxRecDepth 10000 in
set_option maxHeartbeats 4000000 in
theorem ro_9 (s q n : Int) (aS : Bool) (aH aL : BitVec 64) (ab b : Int) (hS : Bool) (hH hL : Int) (o : ByteArray) (t sp : Int) (TA TH : List UInt8) (HI : Hid (CmI s q n b t sp o)) (HTA : Hid (TA.length ≤ 200 ∧ ∀ w : World, Tabs w → Calls Tryz.prog 84 #[.agg #[.bool aS, .int .i64 aH.toInt, .int .i64 aL.toInt, .int .i64 ab]] w fun e w' => e = .returned (.string ⟨TA.toArray⟩) ∧ Below w.heap.size w w')) (HTH : Hid (TH.length ≤ 200 ∧ ∀ w : World, Tabs w → Calls Tryz.prog 87 #[.agg #[.bool hS, .int .i64 hH, .int .i64 hL]] w fun e w' => e = .returned (.string ⟨TH.toArray⟩) ∧ Below w.heap.size w w')) (y : World) (ht : Tabs y) :
    Calls Tryz.prog 47 #[.agg #[.int .i64 9, .int .i64 s, .int .i64 q, .int .i64 n, .bool aS, .int .i64 aH.toInt, .int .i64 aL.toInt, .int .i64 ab, .int .i64 b, .bool hS, .int .i64 hH, .int .i64 hL, .string o, .int .i64 t, .int .i64 sp]] y fun e w' => (((zCm (0) (0) (0) (0) (aS) (aH.toInt) (aL.toInt) (ab) (b) (false) (0) (0) (o) (0) (0) && [((fT ⟨#[115, 101, 115, 115, 105, 111, 110]⟩ s), (rB 1 s 1000000)), ((fT ⟨#[115, 101, 113]⟩ q), (rB 1 q 1000000)), ((fT ⟨#[110, 111, 119]⟩ n), (rB 0 n 1000000000)), ((hT TH), (okB hS hH hL)), ((fT ⟨#[116, 111, 107, 101, 110]⟩ t), (rB 1 t 1000000000)), ((fT ⟨#[115, 112, 97, 110]⟩ sp), (rB 1 sp 1000))].all (fun z => z.2)) = true ∧ e = .returned (.tuple #[.iface 138 (.agg #[.int .i64 s, .int .i64 q, .int .i64 n, .bool hS, .int .i64 hH, .int .i64 hL, .int .i64 t, .int .i64 sp]), .bool true])) ∨ ((zCm (0) (0) (0) (0) (aS) (aH.toInt) (aL.toInt) (ab) (b) (false) (0) (0) (o) (0) (0) && [((fT ⟨#[115, 101, 115, 115, 105, 111, 110]⟩ s), (rB 1 s 1000000)), ((fT ⟨#[115, 101, 113]⟩ q), (rB 1 q 1000000)), ((fT ⟨#[110, 111, 119]⟩ n), (rB 0 n 1000000000)), ((hT TH), (okB hS hH hL)), ((fT ⟨#[116, 111, 107, 101, 110]⟩ t), (rB 1 t 1000000000)), ((fT ⟨#[115, 112, 97, 110]⟩ sp), (rB 1 sp 1000))].all (fun z => z.2)) = false ∧ e = .returned (.tuple #[.nilIface, .bool false]))) ∧ Below y.heap.size y w' := by
  have HT := hidP ht
  have HFO := hidP (fun w (h : Tabs w) => fo_9 s q n aS aH aL ab b hS hH hL o t sp TA TH HI HTA HTH w h)
  have hlen : [((fT ⟨#[115, 101, 115, 115, 105, 111, 110]⟩ s), (rB 1 s 1000000)), ((fT ⟨#[115, 101, 113]⟩ q), (rB 1 q 1000000)), ((fT ⟨#[110, 111, 119]⟩ n), (rB 0 n 1000000000)), ((hT TH), (okB hS hH hL)), ((fT ⟨#[116, 111, 107, 101, 110]⟩ t), (rB 1 t 1000000000)), ((fT ⟨#[115, 112, 97, 110]⟩ sp), (rB 1 sp 1000))].length = 6 := rfl
  generalize [((fT ⟨#[115, 101, 115, 115, 105, 111, 110]⟩ s), (rB 1 s 1000000)), ((fT ⟨#[115, 101, 113]⟩ q), (rB 1 q 1000000)), ((fT ⟨#[110, 111, 119]⟩ n), (rB 0 n 1000000000)), ((hT TH), (okB hS hH hL)), ((fT ⟨#[116, 111, 107, 101, 110]⟩ t), (rB 1 t 1000000000)), ((fT ⟨#[115, 112, 97, 110]⟩ sp), (rB 1 sp 1000))] = fl at *
  have HL := hidP hlen
  obtain ⟨R, hR⟩ : ∃ R : Bool, R = (zCm (0) (0) (0) (0) (aS) (aH.toInt) (aL.toInt) (ab) (b) (false) (0) (0) (o) (0) (0) && fl.all (fun z => z.2)) := ⟨_, rfl⟩
  rw [← hR]
  have HR0 := hidP hR
  clear hR
  clear ht hlen HI HTA HTH
  go_enter Tryz.func47, Tryz.ntmps47
  go_wp2_with fail
  have HX0 := hidP (Bx.new y [.int .i64 9, .int .i64 s, .int .i64 q, .int .i64 n, .bool aS, .int .i64 aH.toInt, .int .i64 aL.toInt, .int .i64 ab, .int .i64 b, .bool hS, .int .i64 hH, .int .i64 hL, .string o, .int .i64 t, .int .i64 sp] 35)
  have HU := hidP ((Below.refl y.heap.size y).alloc (Nat.le_refl _) (.cells #[.int .i64 9, .int .i64 s, .int .i64 q, .int .i64 n, .bool aS, .int .i64 aH.toInt, .int .i64 aL.toInt, .int .i64 ab, .int .i64 b, .bool hS, .int .i64 hH, .int .i64 hL, .string o, .int .i64 t, .int .i64 sp] 35))
  refine (oo_9 y.heap.size s q n aS aH.toInt aL.toInt ab b hS hH hL o t sp _ HX0.out).mono ?_
  rintro e w1 ⟨rfl, hx, hk⟩
  have c0 := hx.cel 0 _ rfl
  have c1 := hx.cel 1 _ rfl
  have c2 := hx.cel 2 _ rfl
  have c3 := hx.cel 3 _ rfl
  have c4 := hx.cel 4 _ rfl
  have c5 := hx.cel 5 _ rfl
  have c6 := hx.cel 6 _ rfl
  have c7 := hx.cel 7 _ rfl
  have c8 := hx.cel 8 _ rfl
  have c9 := hx.cel 9 _ rfl
  have c10 := hx.cel 10 _ rfl
  have c11 := hx.cel 11 _ rfl
  have c12 := hx.cel 12 _ rfl
  have c13 := hx.cel 13 _ rfl
  have c14 := hx.cel 14 _ rfl
  have HB1 := hidP (HU.out.trans hk.low)
  have h1 : y.heap.size ≤ w1.heap.size := HB1.out.size
  have hq := eqCm (0) (0) (0) (0) (aS) (aH.toInt) (aL.toInt) (ab) (b) (false) (0) (0) (o) (0) (0)
  clear hx hk HX0 HU
  generalize zCm (0) (0) (0) (0) (aS) (aH.toInt) (aL.toInt) (ab) (b) (false) (0) (0) (o) (0) (0) = Z at *
  cases Z
  · have HR : Hid ((false && fl.all (fun z => z.2)) = false) := hidP rfl
    go_wp2_with fail
    go_ret2
    exact ⟨Or.inr ⟨by rw [HR0.out]; exact HR.out, rfl⟩, HB1.out⟩
  · go_wp2_with fail
    refine (HFO.out _ (HT.out.below HB1.out)).mono ?_
    rintro e w2 ⟨a, c, rfl, ho, hb2⟩
    have HB2 := hidP (HB1.out.trans (hb2.mono h1))
    have h2 := HB2.out.size
    have HRow := hidP ho.row
    clear hb2 ho c0 c1 c2 c3 c4 c5 c6 c7 c8 c9 c10 c11 c12 c13 c14 hq
    go_wp2_with fail
    go_loopw [18] (fun t18 x => ∃ k : Nat, k ≤ 6 ∧ t18 = .int .i64 k ∧ Hid ((fl.take k).all (fun z => z.2) = true) ∧ Hid (Below w2.heap.size w2 x)) (fun t18 _ => 6 - (intOf t18).toNat)
    case atStart => exact ⟨0, by omega, rfl, hidP (by simp), hidP (Below.refl _ _)⟩
    case round =>
      obtain ⟨k, hk, rfl, HA, HB⟩ := hrel
      have h3 := HB.out.size
      by_cases hlt : k < 6
      · obtain ⟨p, o', z, rfl, hp, hz, d0, d1⟩ := rowF HRow.out k (by rw [HL.out]; exact hlt)
        have e0 := (HB.out.cell hp).trans d0
        have e1 := (HB.out.cell hp).trans d1
        have hlt' : (k : Int) < 6 := by omega
        have HS := hidP (all_snoc hz)
        have HN := hidP (all_not hz)
        clear d0 d1 hz
        obtain ⟨zt, zf⟩ := z
        cases zf
        · have HR : Hid ((true && fl.all (fun z => z.2)) = false) := hidP (by rw [Bool.true_and]; exact HN.out rfl)
          go_wp2_with fail
          go_ret2
          exact ⟨Or.inr ⟨by rw [HR0.out]; exact HR.out, rfl⟩, (HB2.out.trans (HB.out.mono h2)).alloc (by omega) _⟩
        · go_wp2_with fail
          go_roundw
          case rel => exact ⟨k + 1, by omega, by go_num, hidP (by rw [HS.out, HA.out]; rfl), hidP (HB.out.alloc h3 _)⟩
          case measure => simp [intOf]; omega
      · have HR : Hid ((true && fl.all (fun z => z.2)) = true) := hidP (by rw [Bool.true_and]; have := HA.out; rw [List.take_of_length_le (by rw [HL.out]; omega)] at this; exact this)
        have hkn : k = 6 := by omega
        subst hkn
        go_wp2_with fail
        go_ret2
        exact ⟨Or.inl ⟨by rw [HR0.out]; exact HR.out, rfl⟩, HB2.out.trans (HB.out.mono h2)⟩

set_option maxRecDepth 10000 in
set_option maxHeartbeats 4000000 in
theorem ro_10 (s q n : Int) (aS : Bool) (aH aL : BitVec 64) (ab b : Int) (hS : Bool) (hH hL : Int) (o : ByteArray) (t sp : Int) (TA TH : List UInt8) (HI : Hid (CmI s q n b t sp o)) (HTA : Hid (TA.length ≤ 200 ∧ ∀ w : World, Tabs w → Calls Tryz.prog 84 #[.agg #[.bool aS, .int .i64 aH.toInt, .int .i64 aL.toInt, .int .i64 ab]] w fun e w' => e = .returned (.string ⟨TA.toArray⟩) ∧ Below w.heap.size w w')) (HTH : Hid (TH.length ≤ 200 ∧ ∀ w : World, Tabs w → Calls Tryz.prog 87 #[.agg #[.bool hS, .int .i64 hH, .int .i64 hL]] w fun e w' => e = .returned (.string ⟨TH.toArray⟩) ∧ Below w.heap.size w w')) (y : World) (ht : Tabs y) :
    Calls Tryz.prog 47 #[.agg #[.int .i64 10, .int .i64 s, .int .i64 q, .int .i64 n, .bool aS, .int .i64 aH.toInt, .int .i64 aL.toInt, .int .i64 ab, .int .i64 b, .bool hS, .int .i64 hH, .int .i64 hL, .string o, .int .i64 t, .int .i64 sp]] y fun e w' => (((zCm (0) (0) (0) (0) (aS) (aH.toInt) (aL.toInt) (ab) (b) (false) (0) (0) (o) (0) (sp) && [((fT ⟨#[115, 101, 115, 115, 105, 111, 110]⟩ s), (rB 1 s 1000000)), ((fT ⟨#[115, 101, 113]⟩ q), (rB 1 q 1000000)), ((fT ⟨#[110, 111, 119]⟩ n), (rB 0 n 1000000000)), ((hT TH), (okB hS hH hL)), ((fT ⟨#[116, 111, 107, 101, 110]⟩ t), (rB 1 t 1000000000))].all (fun z => z.2)) = true ∧ e = .returned (.tuple #[.iface 140 (.agg #[.int .i64 s, .int .i64 q, .int .i64 n, .bool hS, .int .i64 hH, .int .i64 hL, .int .i64 t]), .bool true])) ∨ ((zCm (0) (0) (0) (0) (aS) (aH.toInt) (aL.toInt) (ab) (b) (false) (0) (0) (o) (0) (sp) && [((fT ⟨#[115, 101, 115, 115, 105, 111, 110]⟩ s), (rB 1 s 1000000)), ((fT ⟨#[115, 101, 113]⟩ q), (rB 1 q 1000000)), ((fT ⟨#[110, 111, 119]⟩ n), (rB 0 n 1000000000)), ((hT TH), (okB hS hH hL)), ((fT ⟨#[116, 111, 107, 101, 110]⟩ t), (rB 1 t 1000000000))].all (fun z => z.2)) = false ∧ e = .returned (.tuple #[.nilIface, .bool false]))) ∧ Below y.heap.size y w' := by
  have HT := hidP ht
  have HFO := hidP (fun w (h : Tabs w) => fo_10 s q n aS aH aL ab b hS hH hL o t sp TA TH HI HTA HTH w h)
  have hlen : [((fT ⟨#[115, 101, 115, 115, 105, 111, 110]⟩ s), (rB 1 s 1000000)), ((fT ⟨#[115, 101, 113]⟩ q), (rB 1 q 1000000)), ((fT ⟨#[110, 111, 119]⟩ n), (rB 0 n 1000000000)), ((hT TH), (okB hS hH hL)), ((fT ⟨#[116, 111, 107, 101, 110]⟩ t), (rB 1 t 1000000000))].length = 5 := rfl
  generalize [((fT ⟨#[115, 101, 115, 115, 105, 111, 110]⟩ s), (rB 1 s 1000000)), ((fT ⟨#[115, 101, 113]⟩ q), (rB 1 q 1000000)), ((fT ⟨#[110, 111, 119]⟩ n), (rB 0 n 1000000000)), ((hT TH), (okB hS hH hL)), ((fT ⟨#[116, 111, 107, 101, 110]⟩ t), (rB 1 t 1000000000))] = fl at *
  have HL := hidP hlen
  obtain ⟨R, hR⟩ : ∃ R : Bool, R = (zCm (0) (0) (0) (0) (aS) (aH.toInt) (aL.toInt) (ab) (b) (false) (0) (0) (o) (0) (sp) && fl.all (fun z => z.2)) := ⟨_, rfl⟩
  rw [← hR]
  have HR0 := hidP hR
  clear hR
  clear ht hlen HI HTA HTH
  go_enter Tryz.func47, Tryz.ntmps47
  go_wp2_with fail
  have HX0 := hidP (Bx.new y [.int .i64 10, .int .i64 s, .int .i64 q, .int .i64 n, .bool aS, .int .i64 aH.toInt, .int .i64 aL.toInt, .int .i64 ab, .int .i64 b, .bool hS, .int .i64 hH, .int .i64 hL, .string o, .int .i64 t, .int .i64 sp] 35)
  have HU := hidP ((Below.refl y.heap.size y).alloc (Nat.le_refl _) (.cells #[.int .i64 10, .int .i64 s, .int .i64 q, .int .i64 n, .bool aS, .int .i64 aH.toInt, .int .i64 aL.toInt, .int .i64 ab, .int .i64 b, .bool hS, .int .i64 hH, .int .i64 hL, .string o, .int .i64 t, .int .i64 sp] 35))
  refine (oo_10 y.heap.size s q n aS aH.toInt aL.toInt ab b hS hH hL o t sp _ HX0.out).mono ?_
  rintro e w1 ⟨rfl, hx, hk⟩
  have c0 := hx.cel 0 _ rfl
  have c1 := hx.cel 1 _ rfl
  have c2 := hx.cel 2 _ rfl
  have c3 := hx.cel 3 _ rfl
  have c4 := hx.cel 4 _ rfl
  have c5 := hx.cel 5 _ rfl
  have c6 := hx.cel 6 _ rfl
  have c7 := hx.cel 7 _ rfl
  have c8 := hx.cel 8 _ rfl
  have c9 := hx.cel 9 _ rfl
  have c10 := hx.cel 10 _ rfl
  have c11 := hx.cel 11 _ rfl
  have c12 := hx.cel 12 _ rfl
  have c13 := hx.cel 13 _ rfl
  have c14 := hx.cel 14 _ rfl
  have HB1 := hidP (HU.out.trans hk.low)
  have h1 : y.heap.size ≤ w1.heap.size := HB1.out.size
  have hq := eqCm (0) (0) (0) (0) (aS) (aH.toInt) (aL.toInt) (ab) (b) (false) (0) (0) (o) (0) (sp)
  clear hx hk HX0 HU
  generalize zCm (0) (0) (0) (0) (aS) (aH.toInt) (aL.toInt) (ab) (b) (false) (0) (0) (o) (0) (sp) = Z at *
  cases Z
  · have HR : Hid ((false && fl.all (fun z => z.2)) = false) := hidP rfl
    go_wp2_with fail
    go_ret2
    exact ⟨Or.inr ⟨by rw [HR0.out]; exact HR.out, rfl⟩, HB1.out⟩
  · go_wp2_with fail
    refine (HFO.out _ (HT.out.below HB1.out)).mono ?_
    rintro e w2 ⟨a, c, rfl, ho, hb2⟩
    have HB2 := hidP (HB1.out.trans (hb2.mono h1))
    have h2 := HB2.out.size
    have HRow := hidP ho.row
    clear hb2 ho c0 c1 c2 c3 c4 c5 c6 c7 c8 c9 c10 c11 c12 c13 c14 hq
    go_wp2_with fail
    go_loopw [18] (fun t18 x => ∃ k : Nat, k ≤ 5 ∧ t18 = .int .i64 k ∧ Hid ((fl.take k).all (fun z => z.2) = true) ∧ Hid (Below w2.heap.size w2 x)) (fun t18 _ => 5 - (intOf t18).toNat)
    case atStart => exact ⟨0, by omega, rfl, hidP (by simp), hidP (Below.refl _ _)⟩
    case round =>
      obtain ⟨k, hk, rfl, HA, HB⟩ := hrel
      have h3 := HB.out.size
      by_cases hlt : k < 5
      · obtain ⟨p, o', z, rfl, hp, hz, d0, d1⟩ := rowF HRow.out k (by rw [HL.out]; exact hlt)
        have e0 := (HB.out.cell hp).trans d0
        have e1 := (HB.out.cell hp).trans d1
        have hlt' : (k : Int) < 5 := by omega
        have HS := hidP (all_snoc hz)
        have HN := hidP (all_not hz)
        clear d0 d1 hz
        obtain ⟨zt, zf⟩ := z
        cases zf
        · have HR : Hid ((true && fl.all (fun z => z.2)) = false) := hidP (by rw [Bool.true_and]; exact HN.out rfl)
          go_wp2_with fail
          go_ret2
          exact ⟨Or.inr ⟨by rw [HR0.out]; exact HR.out, rfl⟩, (HB2.out.trans (HB.out.mono h2)).alloc (by omega) _⟩
        · go_wp2_with fail
          go_roundw
          case rel => exact ⟨k + 1, by omega, by go_num, hidP (by rw [HS.out, HA.out]; rfl), hidP (HB.out.alloc h3 _)⟩
          case measure => simp [intOf]; omega
      · have HR : Hid ((true && fl.all (fun z => z.2)) = true) := hidP (by rw [Bool.true_and]; have := HA.out; rw [List.take_of_length_le (by rw [HL.out]; omega)] at this; exact this)
        have hkn : k = 5 := by omega
        subst hkn
        go_wp2_with fail
        go_ret2
        exact ⟨Or.inl ⟨by rw [HR0.out]; exact HR.out, rfl⟩, HB2.out.trans (HB.out.mono h2)⟩

end Go.Proofs.YtnchndcanhmbeaaGreatDoor
namespace Go.Proofs.YtnchndcanhmbeaaGreatDoor
open Go.RowKit

set_option maxRecDepth 10000 in
set_option maxHeartbeats 4000000 in
theorem ro_11 (s q n : Int) (aS : Bool) (aH aL : BitVec 64) (ab b : Int) (hS : Bool) (hH hL : Int) (o : ByteArray) (t sp : Int) (TA TH : List UInt8) (HI : Hid (CmI s q n b t sp o)) (HTA : Hid (TA.length ≤ 200 ∧ ∀ w : World, Tabs w → Calls Tryz.prog 84 #[.agg #[.bool aS, .int .i64 aH.toInt, .int .i64 aL.toInt, .int .i64 ab]] w fun e w' => e = .returned (.string ⟨TA.toArray⟩) ∧ Below w.heap.size w w')) (HTH : Hid (TH.length ≤ 200 ∧ ∀ w : World, Tabs w → Calls Tryz.prog 87 #[.agg #[.bool hS, .int .i64 hH, .int .i64 hL]] w fun e w' => e = .returned (.string ⟨TH.toArray⟩) ∧ Below w.heap.size w w')) (y : World) (ht : Tabs y) :
    Calls Tryz.prog 47 #[.agg #[.int .i64 11, .int .i64 s, .int .i64 q, .int .i64 n, .bool aS, .int .i64 aH.toInt, .int .i64 aL.toInt, .int .i64 ab, .int .i64 b, .bool hS, .int .i64 hH, .int .i64 hL, .string o, .int .i64 t, .int .i64 sp]] y fun e w' => (((zCm (0) (s) (q) (0) (aS) (aH.toInt) (aL.toInt) (ab) (b) (hS) (hH) (hL) (o) (t) (sp) && [((fT ⟨#[110, 111, 119]⟩ n), (rB 0 n 1000000000))].all (fun z => z.2)) = true ∧ e = .returned (.tuple #[.iface 141 (.agg #[.int .i64 n]), .bool true])) ∨ ((zCm (0) (s) (q) (0) (aS) (aH.toInt) (aL.toInt) (ab) (b) (hS) (hH) (hL) (o) (t) (sp) && [((fT ⟨#[110, 111, 119]⟩ n), (rB 0 n 1000000000))].all (fun z => z.2)) = false ∧ e = .returned (.tuple #[.nilIface, .bool false]))) ∧ Below y.heap.size y w' := by
  have HT := hidP ht
  have HFO := hidP (fun w (h : Tabs w) => fo_11 s q n aS aH aL ab b hS hH hL o t sp TA TH HI HTA HTH w h)
  have hlen : [((fT ⟨#[110, 111, 119]⟩ n), (rB 0 n 1000000000))].length = 1 := rfl
  generalize [((fT ⟨#[110, 111, 119]⟩ n), (rB 0 n 1000000000))] = fl at *
  have HL := hidP hlen
  obtain ⟨R, hR⟩ : ∃ R : Bool, R = (zCm (0) (s) (q) (0) (aS) (aH.toInt) (aL.toInt) (ab) (b) (hS) (hH) (hL) (o) (t) (sp) && fl.all (fun z => z.2)) := ⟨_, rfl⟩
  rw [← hR]
  have HR0 := hidP hR
  clear hR
  clear ht hlen HI HTA HTH
  go_enter Tryz.func47, Tryz.ntmps47
  go_wp2_with fail
  have HX0 := hidP (Bx.new y [.int .i64 11, .int .i64 s, .int .i64 q, .int .i64 n, .bool aS, .int .i64 aH.toInt, .int .i64 aL.toInt, .int .i64 ab, .int .i64 b, .bool hS, .int .i64 hH, .int .i64 hL, .string o, .int .i64 t, .int .i64 sp] 35)
  have HU := hidP ((Below.refl y.heap.size y).alloc (Nat.le_refl _) (.cells #[.int .i64 11, .int .i64 s, .int .i64 q, .int .i64 n, .bool aS, .int .i64 aH.toInt, .int .i64 aL.toInt, .int .i64 ab, .int .i64 b, .bool hS, .int .i64 hH, .int .i64 hL, .string o, .int .i64 t, .int .i64 sp] 35))
  refine (oo_11 y.heap.size s q n aS aH.toInt aL.toInt ab b hS hH hL o t sp _ HX0.out).mono ?_
  rintro e w1 ⟨rfl, hx, hk⟩
  have c0 := hx.cel 0 _ rfl
  have c1 := hx.cel 1 _ rfl
  have c2 := hx.cel 2 _ rfl
  have c3 := hx.cel 3 _ rfl
  have c4 := hx.cel 4 _ rfl
  have c5 := hx.cel 5 _ rfl
  have c6 := hx.cel 6 _ rfl
  have c7 := hx.cel 7 _ rfl
  have c8 := hx.cel 8 _ rfl
  have c9 := hx.cel 9 _ rfl
  have c10 := hx.cel 10 _ rfl
  have c11 := hx.cel 11 _ rfl
  have c12 := hx.cel 12 _ rfl
  have c13 := hx.cel 13 _ rfl
  have c14 := hx.cel 14 _ rfl
  have HB1 := hidP (HU.out.trans hk.low)
  have h1 : y.heap.size ≤ w1.heap.size := HB1.out.size
  have hq := eqCm (0) (s) (q) (0) (aS) (aH.toInt) (aL.toInt) (ab) (b) (hS) (hH) (hL) (o) (t) (sp)
  clear hx hk HX0 HU
  generalize zCm (0) (s) (q) (0) (aS) (aH.toInt) (aL.toInt) (ab) (b) (hS) (hH) (hL) (o) (t) (sp) = Z at *
  cases Z
  · have HR : Hid ((false && fl.all (fun z => z.2)) = false) := hidP rfl
    go_wp2_with fail
    go_ret2
    exact ⟨Or.inr ⟨by rw [HR0.out]; exact HR.out, rfl⟩, HB1.out⟩
  · go_wp2_with fail
    refine (HFO.out _ (HT.out.below HB1.out)).mono ?_
    rintro e w2 ⟨a, c, rfl, ho, hb2⟩
    have HB2 := hidP (HB1.out.trans (hb2.mono h1))
    have h2 := HB2.out.size
    have HRow := hidP ho.row
    clear hb2 ho c0 c1 c2 c3 c4 c5 c6 c7 c8 c9 c10 c11 c12 c13 c14 hq
    go_wp2_with fail
    go_loopw [18] (fun t18 x => ∃ k : Nat, k ≤ 1 ∧ t18 = .int .i64 k ∧ Hid ((fl.take k).all (fun z => z.2) = true) ∧ Hid (Below w2.heap.size w2 x)) (fun t18 _ => 1 - (intOf t18).toNat)
    case atStart => exact ⟨0, by omega, rfl, hidP (by simp), hidP (Below.refl _ _)⟩
    case round =>
      obtain ⟨k, hk, rfl, HA, HB⟩ := hrel
      have h3 := HB.out.size
      by_cases hlt : k < 1
      · obtain ⟨p, o', z, rfl, hp, hz, d0, d1⟩ := rowF HRow.out k (by rw [HL.out]; exact hlt)
        have e0 := (HB.out.cell hp).trans d0
        have e1 := (HB.out.cell hp).trans d1
        have hlt' : (k : Int) < 1 := by omega
        have HS := hidP (all_snoc hz)
        have HN := hidP (all_not hz)
        clear d0 d1 hz
        obtain ⟨zt, zf⟩ := z
        cases zf
        · have HR : Hid ((true && fl.all (fun z => z.2)) = false) := hidP (by rw [Bool.true_and]; exact HN.out rfl)
          go_wp2_with fail
          go_ret2
          exact ⟨Or.inr ⟨by rw [HR0.out]; exact HR.out, rfl⟩, (HB2.out.trans (HB.out.mono h2)).alloc (by omega) _⟩
        · go_wp2_with fail
          go_roundw
          case rel => exact ⟨k + 1, by omega, by go_num, hidP (by rw [HS.out, HA.out]; rfl), hidP (HB.out.alloc h3 _)⟩
          case measure => simp [intOf]; omega
      · have HR : Hid ((true && fl.all (fun z => z.2)) = true) := hidP (by rw [Bool.true_and]; have := HA.out; rw [List.take_of_length_le (by rw [HL.out]; omega)] at this; exact this)
        have hkn : k = 1 := by omega
        subst hkn
        go_wp2_with fail
        go_ret2
        exact ⟨Or.inl ⟨by rw [HR0.out]; exact HR.out, rfl⟩, HB2.out.trans (HB.out.mono h2)⟩

end Go.Proofs.YtnchndcanhmbeaaGreatDoor
