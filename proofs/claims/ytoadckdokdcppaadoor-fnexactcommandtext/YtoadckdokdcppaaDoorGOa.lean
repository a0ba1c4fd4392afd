/-
  orderOut by kind: it takes the kind's fields out of the command's box.
-/
import Derived.Test.YtoadckdokdcppaaDoorGOrd
namespace Go.Proofs.YtoadckdokdcppaaDoor
open Go.RowKit

set_option maxRecDepth 10000 in
set_option maxHeartbeats 4000000 in
theorem oo_1 (p : Nat) (s q n : Int) (aS : Bool) (aH aL ab b : Int) (hS : Bool) (hH hL : Int) (o : ByteArray) (t sp : Int) (x : World) (h : Bx x p [.int .i64 1, .int .i64 s, .int .i64 q, .int .i64 n, .bool aS, .int .i64 aH, .int .i64 aL, .int .i64 ab, .int .i64 b, .bool hS, .int .i64 hH, .int .i64 hL, .string o, .int .i64 t, .int .i64 sp]) :
    Calls Tryd.prog 27 #[.pointer (some ⟨p, 0, none⟩)] x fun e w' => e = .returned (.iface 69 (.agg #[.int .i64 n])) ∧ Bx w' p [.int .i64 0, .int .i64 s, .int .i64 q, .int .i64 0, .bool aS, .int .i64 aH, .int .i64 aL, .int .i64 ab, .int .i64 b, .bool hS, .int .i64 hH, .int .i64 hL, .string o, .int .i64 t, .int .i64 sp] ∧ Kp p x w' := by
  have hLt := h.lt
  have HX := hidP h
  clear h
  go_enter Tryd.func27, Tryd.ntmps27
  go_wp2_with (first | (go_at_call_of 41 (Value.pointer (some (⟨p, 0, none⟩ : Addr))); refine (takeI p 0 [.int .i64 1, .int .i64 s, .int .i64 q, .int .i64 n, .bool aS, .int .i64 aH, .int .i64 aL, .int .i64 ab, .int .i64 b, .bool hS, .int .i64 hH, .int .i64 hL, .string o, .int .i64 t, .int .i64 sp] (1) _ (by repeat (first | with_reducible exact HX.out | (with_reducible refine Bx.drew ?_) | (with_reducible refine Bx.alloc ?_ _))) rfl).mono ?_; rintro e w1 ⟨rfl, hx1, hk1⟩; have HX1 : Hid (Bx w1 p [.int .i64 0, .int .i64 s, .int .i64 q, .int .i64 n, .bool aS, .int .i64 aH, .int .i64 aL, .int .i64 ab, .int .i64 b, .bool hS, .int .i64 hH, .int .i64 hL, .string o, .int .i64 t, .int .i64 sp]) := hidP hx1; have HK1 := hidP hk1;  clear hx1 hk1) | (go_at_call_of 41 (Value.pointer (some (⟨p, 3, none⟩ : Addr))); refine (takeI p 3 [.int .i64 0, .int .i64 s, .int .i64 q, .int .i64 n, .bool aS, .int .i64 aH, .int .i64 aL, .int .i64 ab, .int .i64 b, .bool hS, .int .i64 hH, .int .i64 hL, .string o, .int .i64 t, .int .i64 sp] (n) _ (by repeat (first | with_reducible exact HX.out | with_reducible exact HX1.out | (with_reducible refine Bx.drew ?_) | (with_reducible refine Bx.alloc ?_ _))) rfl).mono ?_; rintro e w2 ⟨rfl, hx2, hk2⟩; have HX2 : Hid (Bx w2 p [.int .i64 0, .int .i64 s, .int .i64 q, .int .i64 0, .bool aS, .int .i64 aH, .int .i64 aL, .int .i64 ab, .int .i64 b, .bool hS, .int .i64 hH, .int .i64 hL, .string o, .int .i64 t, .int .i64 sp]) := hidP hx2; have HK2 := hidP hk2;  clear hx2 hk2))
  all_goals
    go_wp2_with fail
    go_ret
    refine ⟨rfl, HX2.out, ?_⟩
    repeat (first | with_reducible exact Kp.refl _ _ | (with_reducible refine Kp.trans ?_ HK2.out) | (with_reducible refine Kp.trans ?_ HK1.out) | (with_reducible refine Kp.more ?_ (by omega) _) | (with_reducible refine Kp.trans ?_ (Kp.drew _ _)) | (with_reducible refine Kp.setNew ?_ (by omega) (by first | omega | (simp; done) | (simp; omega)) _))

set_option maxRecDepth 10000 in
set_option maxHeartbeats 4000000 in
theorem oo_2 (p : Nat) (s q n : Int) (aS : Bool) (aH aL ab b : Int) (hS : Bool) (hH hL : Int) (o : ByteArray) (t sp : Int) (x : World) (h : Bx x p [.int .i64 2, .int .i64 s, .int .i64 q, .int .i64 n, .bool aS, .int .i64 aH, .int .i64 aL, .int .i64 ab, .int .i64 b, .bool hS, .int .i64 hH, .int .i64 hL, .string o, .int .i64 t, .int .i64 sp]) :
    Calls Tryd.prog 27 #[.pointer (some ⟨p, 0, none⟩)] x fun e w' => e = .returned (.iface 72 (.agg #[.int .i64 s, .int .i64 n])) ∧ Bx w' p [.int .i64 0, .int .i64 0, .int .i64 q, .int .i64 0, .bool aS, .int .i64 aH, .int .i64 aL, .int .i64 ab, .int .i64 b, .bool hS, .int .i64 hH, .int .i64 hL, .string o, .int .i64 t, .int .i64 sp] ∧ Kp p x w' := by
  have hLt := h.lt
  have HX := hidP h
  clear h
  go_enter Tryd.func27, Tryd.ntmps27
  go_wp2_with (first | (go_at_call_of 41 (Value.pointer (some (⟨p, 0, none⟩ : Addr))); refine (takeI p 0 [.int .i64 2, .int .i64 s, .int .i64 q, .int .i64 n, .bool aS, .int .i64 aH, .int .i64 aL, .int .i64 ab, .int .i64 b, .bool hS, .int .i64 hH, .int .i64 hL, .string o, .int .i64 t, .int .i64 sp] (2) _ (by repeat (first | with_reducible exact HX.out | (with_reducible refine Bx.drew ?_) | (with_reducible refine Bx.alloc ?_ _))) rfl).mono ?_; rintro e w1 ⟨rfl, hx1, hk1⟩; have HX1 : Hid (Bx w1 p [.int .i64 0, .int .i64 s, .int .i64 q, .int .i64 n, .bool aS, .int .i64 aH, .int .i64 aL, .int .i64 ab, .int .i64 b, .bool hS, .int .i64 hH, .int .i64 hL, .string o, .int .i64 t, .int .i64 sp]) := hidP hx1; have HK1 := hidP hk1;  clear hx1 hk1))
  go_region_with (first | (go_at_call_of 41 (Value.pointer (some (⟨p, 1, none⟩ : Addr))); refine (takeI p 1 [.int .i64 0, .int .i64 s, .int .i64 q, .int .i64 n, .bool aS, .int .i64 aH, .int .i64 aL, .int .i64 ab, .int .i64 b, .bool hS, .int .i64 hH, .int .i64 hL, .string o, .int .i64 t, .int .i64 sp] (s) _ (by repeat (first | with_reducible exact HX.out | with_reducible exact HX1.out | (with_reducible refine Bx.drew ?_) | (with_reducible refine Bx.alloc ?_ _))) rfl).mono ?_; rintro e w2 ⟨rfl, hx2, hk2⟩; have HX2 : Hid (Bx w2 p [.int .i64 0, .int .i64 0, .int .i64 q, .int .i64 n, .bool aS, .int .i64 aH, .int .i64 aL, .int .i64 ab, .int .i64 b, .bool hS, .int .i64 hH, .int .i64 hL, .string o, .int .i64 t, .int .i64 sp]) := hidP hx2; have HK2 := hidP hk2;  clear hx2 hk2) | (go_at_call_of 41 (Value.pointer (some (⟨p, 3, none⟩ : Addr))); refine (takeI p 3 [.int .i64 0, .int .i64 0, .int .i64 q, .int .i64 n, .bool aS, .int .i64 aH, .int .i64 aL, .int .i64 ab, .int .i64 b, .bool hS, .int .i64 hH, .int .i64 hL, .string o, .int .i64 t, .int .i64 sp] (n) _ (by repeat (first | with_reducible exact HX.out | with_reducible exact HX1.out | with_reducible exact HX2.out | (with_reducible refine Bx.drew ?_) | (with_reducible refine Bx.alloc ?_ _))) rfl).mono ?_; rintro e w3 ⟨rfl, hx3, hk3⟩; have HX3 : Hid (Bx w3 p [.int .i64 0, .int .i64 0, .int .i64 q, .int .i64 0, .bool aS, .int .i64 aH, .int .i64 aL, .int .i64 ab, .int .i64 b, .bool hS, .int .i64 hH, .int .i64 hL, .string o, .int .i64 t, .int .i64 sp]) := hidP hx3; have HK3 := hidP hk3;  clear hx3 hk3))
  all_goals
    go_wp2_with fail
    go_ret
    refine ⟨rfl, HX3.out, ?_⟩
    repeat (first | with_reducible exact Kp.refl _ _ | (with_reducible refine Kp.trans ?_ HK3.out) | (with_reducible refine Kp.trans ?_ HK2.out) | (with_reducible refine Kp.trans ?_ HK1.out) | (with_reducible refine Kp.more ?_ (by omega) _) | (with_reducible refine Kp.trans ?_ (Kp.drew _ _)) | (with_reducible refine Kp.setNew ?_ (by omega) (by first | omega | (simp; done) | (simp; omega)) _))

set_option maxRecDepth 10000 in
set_option maxHeartbeats 4000000 in
theorem oo_3 (p : Nat) (s q n : Int) (aS : Bool) (aH aL ab b : Int) (hS : Bool) (hH hL : Int) (o : ByteArray) (t sp : Int) (x : World) (h : Bx x p [.int .i64 3, .int .i64 s, .int .i64 q, .int .i64 n, .bool aS, .int .i64 aH, .int .i64 aL, .int .i64 ab, .int .i64 b, .bool hS, .int .i64 hH, .int .i64 hL, .string o, .int .i64 t, .int .i64 sp]) :
    Calls Tryd.prog 27 #[.pointer (some ⟨p, 0, none⟩)] x fun e w' => e = .returned (.iface 76 (.agg #[.int .i64 s, .int .i64 q, .int .i64 n, .bool aS, .int .i64 aH, .int .i64 aL, .int .i64 ab, .int .i64 b])) ∧ Bx w' p [.int .i64 0, .int .i64 0, .int .i64 0, .int .i64 0, .bool false, .int .i64 0, .int .i64 0, .int .i64 0, .int .i64 0, .bool hS, .int .i64 hH, .int .i64 hL, .string o, .int .i64 t, .int .i64 sp] ∧ Kp p x w' := by
  have hLt := h.lt
  have HX := hidP h
  clear h
  go_enter Tryd.func27, Tryd.ntmps27
  go_wp2_with (first | (go_at_call_of 41 (Value.pointer (some (⟨p, 0, none⟩ : Addr))); refine (takeI p 0 [.int .i64 3, .int .i64 s, .int .i64 q, .int .i64 n, .bool aS, .int .i64 aH, .int .i64 aL, .int .i64 ab, .int .i64 b, .bool hS, .int .i64 hH, .int .i64 hL, .string o, .int .i64 t, .int .i64 sp] (3) _ (by repeat (first | with_reducible exact HX.out | (with_reducible refine Bx.drew ?_) | (with_reducible refine Bx.alloc ?_ _))) rfl).mono ?_; rintro e w1 ⟨rfl, hx1, hk1⟩; have HX1 : Hid (Bx w1 p [.int .i64 0, .int .i64 s, .int .i64 q, .int .i64 n, .bool aS, .int .i64 aH, .int .i64 aL, .int .i64 ab, .int .i64 b, .bool hS, .int .i64 hH, .int .i64 hL, .string o, .int .i64 t, .int .i64 sp]) := hidP hx1; have HK1 := hidP hk1;  clear hx1 hk1))
  go_region_with (first | (go_at_call_of 42 (Value.pointer (some (⟨p, 0, none⟩ : Addr))); refine (reqOut p 0 s q n aS aH aL ab b hS hH hL o t sp _ (by repeat (first | with_reducible exact HX.out | with_reducible exact HX1.out | (with_reducible refine Bx.drew ?_) | (with_reducible refine Bx.alloc ?_ _)))).mono ?_; rintro e w2 ⟨rfl, hx2, hk2⟩; have HX2 : Hid (Bx w2 p [.int .i64 0, .int .i64 0, .int .i64 0, .int .i64 0, .bool aS, .int .i64 aH, .int .i64 aL, .int .i64 ab, .int .i64 b, .bool hS, .int .i64 hH, .int .i64 hL, .string o, .int .i64 t, .int .i64 sp]) := hidP hx2; have HK2 := hidP hk2;  clear hx2 hk2) | (go_at_call_of 43 (Value.pointer (some (⟨p, 4, none⟩ : Addr))); refine (takeP p 4 [.int .i64 0, .int .i64 0, .int .i64 0, .int .i64 0, .bool aS, .int .i64 aH, .int .i64 aL, .int .i64 ab, .int .i64 b, .bool hS, .int .i64 hH, .int .i64 hL, .string o, .int .i64 t, .int .i64 sp] aS aH aL ab _ (by repeat (first | with_reducible exact HX.out | with_reducible exact HX1.out | with_reducible exact HX2.out | (with_reducible refine Bx.drew ?_) | (with_reducible refine Bx.alloc ?_ _))) rfl rfl rfl rfl).mono ?_; rintro e w3 ⟨rfl, hx3, hk3⟩; have HX3 : Hid (Bx w3 p [.int .i64 0, .int .i64 0, .int .i64 0, .int .i64 0, .bool false, .int .i64 0, .int .i64 0, .int .i64 0, .int .i64 b, .bool hS, .int .i64 hH, .int .i64 hL, .string o, .int .i64 t, .int .i64 sp]) := hidP hx3; have HK3 := hidP hk3;  clear hx3 hk3) | (go_at_call_of 41 (Value.pointer (some (⟨p, 8, none⟩ : Addr))); refine (takeI p 8 [.int .i64 0, .int .i64 0, .int .i64 0, .int .i64 0, .bool false, .int .i64 0, .int .i64 0, .int .i64 0, .int .i64 b, .bool hS, .int .i64 hH, .int .i64 hL, .string o, .int .i64 t, .int .i64 sp] (b) _ (by repeat (first | with_reducible exact HX.out | with_reducible exact HX1.out | with_reducible exact HX2.out | with_reducible exact HX3.out | (with_reducible refine Bx.drew ?_) | (with_reducible refine Bx.alloc ?_ _))) rfl).mono ?_; rintro e w4 ⟨rfl, hx4, hk4⟩; have HX4 : Hid (Bx w4 p [.int .i64 0, .int .i64 0, .int .i64 0, .int .i64 0, .bool false, .int .i64 0, .int .i64 0, .int .i64 0, .int .i64 0, .bool hS, .int .i64 hH, .int .i64 hL, .string o, .int .i64 t, .int .i64 sp]) := hidP hx4; have HK4 := hidP hk4;  clear hx4 hk4))
  all_goals
    go_wp2_with fail
    go_ret
    refine ⟨rfl, HX4.out, ?_⟩
    repeat (first | with_reducible exact Kp.refl _ _ | (with_reducible refine Kp.trans ?_ HK4.out) | (with_reducible refine Kp.trans ?_ HK3.out) | (with_reducible refine Kp.trans ?_ HK2.out) | (with_reducible refine Kp.trans ?_ HK1.out) | (with_reducible refine Kp.more ?_ (by omega) _) | (with_reducible refine Kp.trans ?_ (Kp.drew _ _)) | (with_reducible refine Kp.setNew ?_ (by omega) (by first | omega | (simp; done) | (simp; omega)) _))

set_option maxRecDepth 10000 in
set_option maxHeartbeats 4000000 in
theorem oo_4 (p : Nat) (s q n : Int) (aS : Bool) (aH aL ab b : Int) (hS : Bool) (hH hL : Int) (o : ByteArray) (t sp : Int) (x : World) (h : Bx x p [.int .i64 4, .int .i64 s, .int .i64 q, .int .i64 n, .bool aS, .int .i64 aH, .int .i64 aL, .int .i64 ab, .int .i64 b, .bool hS, .int .i64 hH, .int .i64 hL, .string o, .int .i64 t, .int .i64 sp]) :
    Calls Tryd.prog 27 #[.pointer (some ⟨p, 0, none⟩)] x fun e w' => e = .returned (.iface 80 (.agg #[.int .i64 s, .int .i64 q, .int .i64 n, .bool aS, .int .i64 aH, .int .i64 aL, .int .i64 ab])) ∧ Bx w' p [.int .i64 0, .int .i64 0, .int .i64 0, .int .i64 0, .bool false, .int .i64 0, .int .i64 0, .int .i64 0, .int .i64 b, .bool hS, .int .i64 hH, .int .i64 hL, .string o, .int .i64 t, .int .i64 sp] ∧ Kp p x w' := by
  have hLt := h.lt
  have HX := hidP h
  clear h
  go_enter Tryd.func27, Tryd.ntmps27
  go_wp2_with (first | (go_at_call_of 41 (Value.pointer (some (⟨p, 0, none⟩ : Addr))); refine (takeI p 0 [.int .i64 4, .int .i64 s, .int .i64 q, .int .i64 n, .bool aS, .int .i64 aH, .int .i64 aL, .int .i64 ab, .int .i64 b, .bool hS, .int .i64 hH, .int .i64 hL, .string o, .int .i64 t, .int .i64 sp] (4) _ (by repeat (first | with_reducible exact HX.out | (with_reducible refine Bx.drew ?_) | (with_reducible refine Bx.alloc ?_ _))) rfl).mono ?_; rintro e w1 ⟨rfl, hx1, hk1⟩; have HX1 : Hid (Bx w1 p [.int .i64 0, .int .i64 s, .int .i64 q, .int .i64 n, .bool aS, .int .i64 aH, .int .i64 aL, .int .i64 ab, .int .i64 b, .bool hS, .int .i64 hH, .int .i64 hL, .string o, .int .i64 t, .int .i64 sp]) := hidP hx1; have HK1 := hidP hk1;  clear hx1 hk1))
  go_region_with (first | (go_at_call_of 42 (Value.pointer (some (⟨p, 0, none⟩ : Addr))); refine (reqOut p 0 s q n aS aH aL ab b hS hH hL o t sp _ (by repeat (first | with_reducible exact HX.out | with_reducible exact HX1.out | (with_reducible refine Bx.drew ?_) | (with_reducible refine Bx.alloc ?_ _)))).mono ?_; rintro e w2 ⟨rfl, hx2, hk2⟩; have HX2 : Hid (Bx w2 p [.int .i64 0, .int .i64 0, .int .i64 0, .int .i64 0, .bool aS, .int .i64 aH, .int .i64 aL, .int .i64 ab, .int .i64 b, .bool hS, .int .i64 hH, .int .i64 hL, .string o, .int .i64 t, .int .i64 sp]) := hidP hx2; have HK2 := hidP hk2;  clear hx2 hk2) | (go_at_call_of 43 (Value.pointer (some (⟨p, 4, none⟩ : Addr))); refine (takeP p 4 [.int .i64 0, .int .i64 0, .int .i64 0, .int .i64 0, .bool aS, .int .i64 aH, .int .i64 aL, .int .i64 ab, .int .i64 b, .bool hS, .int .i64 hH, .int .i64 hL, .string o, .int .i64 t, .int .i64 sp] aS aH aL ab _ (by repeat (first | with_reducible exact HX.out | with_reducible exact HX1.out | with_reducible exact HX2.out | (with_reducible refine Bx.drew ?_) | (with_reducible refine Bx.alloc ?_ _))) rfl rfl rfl rfl).mono ?_; rintro e w3 ⟨rfl, hx3, hk3⟩; have HX3 : Hid (Bx w3 p [.int .i64 0, .int .i64 0, .int .i64 0, .int .i64 0, .bool false, .int .i64 0, .int .i64 0, .int .i64 0, .int .i64 b, .bool hS, .int .i64 hH, .int .i64 hL, .string o, .int .i64 t, .int .i64 sp]) := hidP hx3; have HK3 := hidP hk3;  clear hx3 hk3))
  all_goals
    go_wp2_with fail
    go_ret
    refine ⟨rfl, HX3.out, ?_⟩
    repeat (first | with_reducible exact Kp.refl _ _ | (with_reducible refine Kp.trans ?_ HK3.out) | (with_reducible refine Kp.trans ?_ HK2.out) | (with_reducible refine Kp.trans ?_ HK1.out) | (with_reducible refine Kp.more ?_ (by omega) _) | (with_reducible refine Kp.trans ?_ (Kp.drew _ _)) | (with_reducible refine Kp.setNew ?_ (by omega) (by first | omega | (simp; done) | (simp; omega)) _))

set_option maxRecDepth 10000 in
set_option maxHeartbeats 4000000 in
theorem oo_11 (p : Nat) (s q n : Int) (aS : Bool) (aH aL ab b : Int) (hS : Bool) (hH hL : Int) (o : ByteArray) (t sp : Int) (x : World) (h : Bx x p [.int .i64 11, .int .i64 s, .int .i64 q, .int .i64 n, .bool aS, .int .i64 aH, .int .i64 aL, .int .i64 ab, .int .i64 b, .bool hS, .int .i64 hH, .int .i64 hL, .string o, .int .i64 t, .int .i64 sp]) :
    Calls Tryd.prog 27 #[.pointer (some ⟨p, 0, none⟩)] x fun e w' => e = .returned (.iface 94 (.agg #[.int .i64 n])) ∧ Bx w' p [.int .i64 0, .int .i64 s, .int .i64 q, .int .i64 0, .bool aS, .int .i64 aH, .int .i64 aL, .int .i64 ab, .int .i64 b, .bool hS, .int .i64 hH, .int .i64 hL, .string o, .int .i64 t, .int .i64 sp] ∧ Kp p x w' := by
  have hLt := h.lt
  have HX := hidP h
  clear h
  go_enter Tryd.func27, Tryd.ntmps27
  go_wp2_with (first | (go_at_call_of 41 (Value.pointer (some (⟨p, 0, none⟩ : Addr))); refine (takeI p 0 [.int .i64 11, .int .i64 s, .int .i64 q, .int .i64 n, .bool aS, .int .i64 aH, .int .i64 aL, .int .i64 ab, .int .i64 b, .bool hS, .int .i64 hH, .int .i64 hL, .string o, .int .i64 t, .int .i64 sp] (11) _ (by repeat (first | with_reducible exact HX.out | (with_reducible refine Bx.drew ?_) | (with_reducible refine Bx.alloc ?_ _))) rfl).mono ?_; rintro e w1 ⟨rfl, hx1, hk1⟩; have HX1 : Hid (Bx w1 p [.int .i64 0, .int .i64 s, .int .i64 q, .int .i64 n, .bool aS, .int .i64 aH, .int .i64 aL, .int .i64 ab, .int .i64 b, .bool hS, .int .i64 hH, .int .i64 hL, .string o, .int .i64 t, .int .i64 sp]) := hidP hx1; have HK1 := hidP hk1;  clear hx1 hk1) | (go_at_call_of 41 (Value.pointer (some (⟨p, 3, none⟩ : Addr))); refine (takeI p 3 [.int .i64 0, .int .i64 s, .int .i64 q, .int .i64 n, .bool aS, .int .i64 aH, .int .i64 aL, .int .i64 ab, .int .i64 b, .bool hS, .int .i64 hH, .int .i64 hL, .string o, .int .i64 t, .int .i64 sp] (n) _ (by repeat (first | with_reducible exact HX.out | with_reducible exact HX1.out | (with_reducible refine Bx.drew ?_) | (with_reducible refine Bx.alloc ?_ _))) rfl).mono ?_; rintro e w2 ⟨rfl, hx2, hk2⟩; have HX2 : Hid (Bx w2 p [.int .i64 0, .int .i64 s, .int .i64 q, .int .i64 0, .bool aS, .int .i64 aH, .int .i64 aL, .int .i64 ab, .int .i64 b, .bool hS, .int .i64 hH, .int .i64 hL, .string o, .int .i64 t, .int .i64 sp]) := hidP hx2; have HK2 := hidP hk2;  clear hx2 hk2))
  all_goals
    go_wp2_with fail
    go_ret
    refine ⟨rfl, HX2.out, ?_⟩
    repeat (first | with_reducible exact Kp.refl _ _ | (with_reducible refine Kp.trans ?_ HK2.out) | (with_reducible refine Kp.trans ?_ HK1.out) | (with_reducible refine Kp.more ?_ (by omega) _) | (with_reducible refine Kp.trans ?_ (Kp.drew _ _)) | (with_reducible refine Kp.setNew ?_ (by omega) (by first | omega | (simp; done) | (simp; omega)) _))

set_option maxRecDepth 10000 in
set_option maxHeartbeats 4000000 in
theorem oo_no (p : Nat) (k : Int) (s q n : Int) (aS : Bool) (aH aL ab b : Int) (hS : Bool) (hH hL : Int) (o : ByteArray) (t sp : Int) (x : World) (h : Bx x p [.int .i64 k, .int .i64 s, .int .i64 q, .int .i64 n, .bool aS, .int .i64 aH, .int .i64 aL, .int .i64 ab, .int .i64 b, .bool hS, .int .i64 hH, .int .i64 hL, .string o, .int .i64 t, .int .i64 sp]) (e1 : (k == 1) = false) (e2 : (k == 2) = false) (e3 : (k == 3) = false) (e4 : (k == 4) = false) (e5 : (k == 5) = false) (e6 : (k == 6) = false) (e7 : (k == 7) = false) (e8 : (k == 8) = false) (e9 : (k == 9) = false) (e10 : (k == 10) = false) (e11 : (k == 11) = false) :
    Calls Tryd.prog 27 #[.pointer (some ⟨p, 0, none⟩)] x fun e w' => e = .returned .nilIface ∧ Bx w' p [.int .i64 0, .int .i64 s, .int .i64 q, .int .i64 n, .bool aS, .int .i64 aH, .int .i64 aL, .int .i64 ab, .int .i64 b, .bool hS, .int .i64 hH, .int .i64 hL, .string o, .int .i64 t, .int .i64 sp] ∧ Kp p x w' := by
  have hLt := h.lt
  have HX := hidP h
  clear h
  go_enter Tryd.func27, Tryd.ntmps27
  go_wp2_with (first | (go_at_call_of 41 (Value.pointer (some (⟨p, 0, none⟩ : Addr))); refine (takeI p 0 [.int .i64 k, .int .i64 s, .int .i64 q, .int .i64 n, .bool aS, .int .i64 aH, .int .i64 aL, .int .i64 ab, .int .i64 b, .bool hS, .int .i64 hH, .int .i64 hL, .string o, .int .i64 t, .int .i64 sp] (k) _ (by repeat (first | with_reducible exact HX.out | (with_reducible refine Bx.drew ?_) | (with_reducible refine Bx.alloc ?_ _))) rfl).mono ?_; rintro e w1 ⟨rfl, hx1, hk1⟩; have HX1 : Hid (Bx w1 p [.int .i64 0, .int .i64 s, .int .i64 q, .int .i64 n, .bool aS, .int .i64 aH, .int .i64 aL, .int .i64 ab, .int .i64 b, .bool hS, .int .i64 hH, .int .i64 hL, .string o, .int .i64 t, .int .i64 sp]) := hidP hx1; have HK1 := hidP hk1;  clear hx1 hk1))
  go_ret
  refine ⟨rfl, HX1.out, ?_⟩
  repeat (first | with_reducible exact Kp.refl _ _ | (with_reducible refine Kp.trans ?_ HK1.out) | (with_reducible refine Kp.more ?_ (by omega) _) | (with_reducible refine Kp.trans ?_ (Kp.drew _ _)) | (with_reducible refine Kp.setNew ?_ (by omega) (by first | omega | (simp; done) | (simp; omega)) _))

end Go.Proofs.YtoadckdokdcppaaDoor
