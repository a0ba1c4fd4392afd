/-
  rightOrder by kind: the order and true where what the kind does not have is zero and each field is right.
-/
import Derived.Test.YtoadckdokdcppaaDoorGRow2
import Derived.Test.YtoadckdokdcppaaDoorXEqC
import Derived.Test.YtoadckdokdcppaaDoorGFb
import Derived.Test.YtoadckdokdcppaaDoorGOb
namespace Go.Proofs.YtoadckdokdcppaaDoor
open Go.RowKit

set_option maxRecDepth 10000 in
set_option maxHeartbeats 4000000 in
theorem ro_5 (s q n : Int) (aS : Bool) (aH aL : BitVec 64) (ab b : Int) (hS : Bool) (hH hL : Int) (o : ByteArray) (t sp : Int) (TA TH : List UInt8) (HI : Hid (CmI s q n b t sp o)) (HTA : Hid (TA.length ≤ 200 ∧ ∀ w : World, Tabs w → Calls Tryd.prog 48 #[.agg #[.bool aS, .int .i64 aH.toInt, .int .i64 aL.toInt, .int .i64 ab]] w fun e w' => e = .returned (.string ⟨TA.toArray⟩) ∧ Below w.heap.size w w')) (HTH : Hid (TH.length ≤ 200 ∧ ∀ w : World, Tabs w → Calls Tryd.prog 51 #[.agg #[.bool hS, .int .i64 hH, .int .i64 hL]] w fun e w' => e = .returned (.string ⟨TH.toArray⟩) ∧ Below w.heap.size w w')) (y : World) (ht : Tabs y) :
    Calls Tryd.prog 20 #[.agg #[.int .i64 5, .int .i64 s, .int .i64 q, .int .i64 n, .bool aS, .int .i64 aH.toInt, .int .i64 aL.toInt, .int .i64 ab, .int .i64 b, .bool hS, .int .i64 hH, .int .i64 hL, .string o, .int .i64 t, .int .i64 sp]] y fun e w' => (((zCm (0) (0) (0) (0) (false) (0) (0) (0) (b) (hS) (hH) (hL) (⟨#[]⟩) (t) (sp) && [((fT ⟨#[115, 101, 115, 115, 105, 111, 110]⟩ s), (rB 1 s 1000000)), ((fT ⟨#[115, 101, 113]⟩ q), (rB 1 q 1000000)), ((fT ⟨#[110, 111, 119]⟩ n), (rB 0 n 1000000000)), ((aT TA), (pokB aS aH aL ab)), ((oT o), (ownB o))].all (fun z => z.2)) = true ∧ e = .returned (.tuple #[.iface 82 (.agg #[.int .i64 s, .int .i64 q, .int .i64 n, .bool aS, .int .i64 aH.toInt, .int .i64 aL.toInt, .int .i64 ab, .string o]), .bool true])) ∨ ((zCm (0) (0) (0) (0) (false) (0) (0) (0) (b) (hS) (hH) (hL) (⟨#[]⟩) (t) (sp) && [((fT ⟨#[115, 101, 115, 115, 105, 111, 110]⟩ s), (rB 1 s 1000000)), ((fT ⟨#[115, 101, 113]⟩ q), (rB 1 q 1000000)), ((fT ⟨#[110, 111, 119]⟩ n), (rB 0 n 1000000000)), ((aT TA), (pokB aS aH aL ab)), ((oT o), (ownB o))].all (fun z => z.2)) = false ∧ e = .returned (.tuple #[.nilIface, .bool false]))) ∧ Below y.heap.size y w' := by
  have HT := hidP ht
  have HFO := hidP (fun w (h : Tabs w) => fo_5 s q n aS aH aL ab b hS hH hL o t sp TA TH HI HTA HTH w h)
  have hlen : [((fT ⟨#[115, 101, 115, 115, 105, 111, 110]⟩ s), (rB 1 s 1000000)), ((fT ⟨#[115, 101, 113]⟩ q), (rB 1 q 1000000)), ((fT ⟨#[110, 111, 119]⟩ n), (rB 0 n 1000000000)), ((aT TA), (pokB aS aH aL ab)), ((oT o), (ownB o))].length = 5 := rfl
  generalize [((fT ⟨#[115, 101, 115, 115, 105, 111, 110]⟩ s), (rB 1 s 1000000)), ((fT ⟨#[115, 101, 113]⟩ q), (rB 1 q 1000000)), ((fT ⟨#[110, 111, 119]⟩ n), (rB 0 n 1000000000)), ((aT TA), (pokB aS aH aL ab)), ((oT o), (ownB o))] = fl at *
  have HL := hidP hlen
  obtain ⟨R, hR⟩ : ∃ R : Bool, R = (zCm (0) (0) (0) (0) (false) (0) (0) (0) (b) (hS) (hH) (hL) (⟨#[]⟩) (t) (sp) && fl.all (fun z => z.2)) := ⟨_, rfl⟩
  rw [← hR]
  have HR0 := hidP hR
  clear hR
  clear ht hlen HI HTA HTH
  go_enter Tryd.func20, Tryd.ntmps20
  go_wp2_with fail
  have HX0 := hidP (Bx.new y [.int .i64 5, .int .i64 s, .int .i64 q, .int .i64 n, .bool aS, .int .i64 aH.toInt, .int .i64 aL.toInt, .int .i64 ab, .int .i64 b, .bool hS, .int .i64 hH, .int .i64 hL, .string o, .int .i64 t, .int .i64 sp] 34)
  have HU := hidP ((Below.refl y.heap.size y).alloc (Nat.le_refl _) (.cells #[.int .i64 5, .int .i64 s, .int .i64 q, .int .i64 n, .bool aS, .int .i64 aH.toInt, .int .i64 aL.toInt, .int .i64 ab, .int .i64 b, .bool hS, .int .i64 hH, .int .i64 hL, .string o, .int .i64 t, .int .i64 sp] 34))
  refine (oo_5 y.heap.size s q n aS aH.toInt aL.toInt ab b hS hH hL o t sp _ HX0.out).mono ?_
  rintro e w1 ⟨rfl, hx, hk⟩
  have c0 := hx.cel 0 _ rfl
  have c1 := hx.cel 1 _ rfl
  have c2 := hx.cel 2 _ rfl
  have c3 := hx.cel 3 _ rfl
  have c4 := hx.cel 4 _ rfl
  have c5 := hx.cel 5 _ rfl
  have c6 := hx.cel 6 _ rfl
  have c7 := hx.cel 7 _ rfl
  have c8 := hx.cel 8 _ rfl
  have c9 := hx.cel 9 _ rfl
  have c10 := hx.cel 10 _ rfl
  have c11 := hx.cel 11 _ rfl
  have c12 := hx.cel 12 _ rfl
  have c13 := hx.cel 13 _ rfl
  have c14 := hx.cel 14 _ rfl
  have HB1 := hidP (HU.out.trans hk.low)
  have h1 : y.heap.size ≤ w1.heap.size := HB1.out.size
  have hq := eqCm (0) (0) (0) (0) (false) (0) (0) (0) (b) (hS) (hH) (hL) (⟨#[]⟩) (t) (sp)
  clear hx hk HX0 HU
  generalize zCm (0) (0) (0) (0) (false) (0) (0) (0) (b) (hS) (hH) (hL) (⟨#[]⟩) (t) (sp) = Z at *
  cases Z
  · have HR : Hid ((false && fl.all (fun z => z.2)) = false) := hidP rfl
    go_wp2_with fail
    go_ret2
    exact ⟨Or.inr ⟨by rw [HR0.out]; exact HR.out, rfl⟩, HB1.out⟩
  · go_wp2_with fail
    refine (HFO.out _ (HT.out.below HB1.out)).mono ?_
    rintro e w2 ⟨a, c, rfl, ho, hb2⟩
    have HB2 := hidP (HB1.out.trans (hb2.mono h1))
    have h2 := HB2.out.size
    have HRow := hidP ho.row
    clear hb2 ho c0 c1 c2 c3 c4 c5 c6 c7 c8 c9 c10 c11 c12 c13 c14 hq
    go_wp2_with fail
    go_loopw [18] (fun t18 x => ∃ k : Nat, k ≤ 5 ∧ t18 = .int .i64 k ∧ Hid ((fl.take k).all (fun z => z.2) = true) ∧ Hid (Below w2.heap.size w2 x)) (fun t18 _ => 5 - (intOf t18).toNat)
    case atStart => exact ⟨0, by omega, rfl, hidP (by simp), hidP (Below.refl _ _)⟩
    case round =>
      obtain ⟨k, hk, rfl, HA, HB⟩ := hrel
      have h3 := HB.out.size
      by_cases hlt : k < 5
      · obtain ⟨p, o', z, rfl, hp, hz, d0, d1⟩ := rowF HRow.out k (by rw [HL.out]; exact hlt)
        have e0 := (HB.out.cell hp).trans d0
        have e1 := (HB.out.cell hp).trans d1
        have hlt' : (k : Int) < 5 := by omega
        have HS := hidP (all_snoc hz)
        have HN := hidP (all_not hz)
        clear d0 d1 hz
        obtain ⟨zt, zf⟩ := z
        cases zf
        · have HR : Hid ((true && fl.all (fun z => z.2)) = false) := hidP (by rw [Bool.true_and]; exact HN.out rfl)
          go_wp2_with fail
          go_ret2
          exact ⟨Or.inr ⟨by rw [HR0.out]; exact HR.out, rfl⟩, (HB2.out.trans (HB.out.mono h2)).alloc (by omega) _⟩
        · go_wp2_with fail
          go_roundw
          case rel => exact ⟨k + 1, by omega, by go_num, hidP (by rw [HS.out, HA.out]; rfl), hidP (HB.out.alloc h3 _)⟩
          case measure => simp [intOf]; omega
      · have HR : Hid ((true && fl.all (fun z => z.2)) = true) := hidP (by rw [Bool.true_and]; have := HA.out; rw [List.take_of_length_le (by rw [HL.out]; omega)] at this; exact this)
        have hkn : k = 5 := by omega
        subst hkn
        go_wp2_with fail
        go_ret2
        exact ⟨Or.inl ⟨by rw [HR0.out]; exact HR.out, rfl⟩, HB2.out.trans (HB.out.mono h2)⟩

set_option maxRecDepth 10000 in
set_option maxHeartbeats 4000000 in
theorem ro_6 (s q n : Int) (aS : Bool) (aH aL : BitVec 64) (ab b : Int) (hS : Bool) (hH hL : Int) (o : ByteArray) (t sp : Int) (TA TH : List UInt8) (HI : Hid (CmI s q n b t sp o)) (HTA : Hid (TA.length ≤ 200 ∧ ∀ w : World, Tabs w → Calls Tryd.prog 48 #[.agg #[.bool aS, .int .i64 aH.toInt, .int .i64 aL.toInt, .int .i64 ab]] w fun e w' => e = .returned (.string ⟨TA.toArray⟩) ∧ Below w.heap.size w w')) (HTH : Hid (TH.length ≤ 200 ∧ ∀ w : World, Tabs w → Calls Tryd.prog 51 #[.agg #[.bool hS, .int .i64 hH, .int .i64 hL]] w fun e w' => e = .returned (.string ⟨TH.toArray⟩) ∧ Below w.heap.size w w')) (y : World) (ht : Tabs y) :
    Calls Tryd.prog 20 #[.agg #[.int .i64 6, .int .i64 s, .int .i64 q, .int .i64 n, .bool aS, .int .i64 aH.toInt, .int .i64 aL.toInt, .int .i64 ab, .int .i64 b, .bool hS, .int .i64 hH, .int .i64 hL, .string o, .int .i64 t, .int .i64 sp]] y fun e w' => (((zCm (0) (0) (0) (0) (false) (0) (0) (0) (b) (hS) (hH) (hL) (⟨#[]⟩) (t) (sp) && [((fT ⟨#[115, 101, 115, 115, 105, 111, 110]⟩ s), (rB 1 s 1000000)), ((fT ⟨#[115, 101, 113]⟩ q), (rB 1 q 1000000)), ((fT ⟨#[110, 111, 119]⟩ n), (rB 0 n 1000000000)), ((aT TA), (pokB aS aH aL ab)), ((oT o), (ownB o))].all (fun z => z.2)) = true ∧ e = .returned (.tuple #[.iface 84 (.agg #[.int .i64 s, .int .i64 q, .int .i64 n, .bool aS, .int .i64 aH.toInt, .int .i64 aL.toInt, .int .i64 ab, .string o]), .bool true])) ∨ ((zCm (0) (0) (0) (0) (false) (0) (0) (0) (b) (hS) (hH) (hL) (⟨#[]⟩) (t) (sp) && [((fT ⟨#[115, 101, 115, 115, 105, 111, 110]⟩ s), (rB 1 s 1000000)), ((fT ⟨#[115, 101, 113]⟩ q), (rB 1 q 1000000)), ((fT ⟨#[110, 111, 119]⟩ n), (rB 0 n 1000000000)), ((aT TA), (pokB aS aH aL ab)), ((oT o), (ownB o))].all (fun z => z.2)) = false ∧ e = .returned (.tuple #[.nilIface, .bool false]))) ∧ Below y.heap.size y w' := by
  have HT := hidP ht
  have HFO := hidP (fun w (h : Tabs w) => fo_6 s q n aS aH aL ab b hS hH hL o t sp TA TH HI HTA HTH w h)
  have hlen : [((fT ⟨#[115, 101, 115, 115, 105, 111, 110]⟩ s), (rB 1 s 1000000)), ((fT ⟨#[115, 101, 113]⟩ q), (rB 1 q 1000000)), ((fT ⟨#[110, 111, 119]⟩ n), (rB 0 n 1000000000)), ((aT TA), (pokB aS aH aL ab)), ((oT o), (ownB o))].length = 5 := rfl
  generalize [((fT ⟨#[115, 101, 115, 115, 105, 111, 110]⟩ s), (rB 1 s 1000000)), ((fT ⟨#[115, 101, 113]⟩ q), (rB 1 q 1000000)), ((fT ⟨#[110, 111, 119]⟩ n), (rB 0 n 1000000000)), ((aT TA), (pokB aS aH aL ab)), ((oT o), (ownB o))] = fl at *
  have HL := hidP hlen
  obtain ⟨R, hR⟩ : ∃ R : Bool, R = (zCm (0) (0) (0) (0) (false) (0) (0) (0) (b) (hS) (hH) (hL) (⟨#[]⟩) (t) (sp) && fl.all (fun z => z.2)) := ⟨_, rfl⟩
  rw [← hR]
  have HR0 := hidP hR
  clear hR
  clear ht hlen HI HTA HTH
  go_enter Tryd.func20, Tryd.ntmps20
  go_wp2_with fail
  have HX0 := hidP (Bx.new y [.int .i64 6, .int .i64 s, .int .i64 q, .int .i64 n, .bool aS, .int .i64 aH.toInt, .int .i64 aL.toInt, .int .i64 ab, .int .i64 b, .bool hS, .int .i64 hH, .int .i64 hL, .string o, .int .i64 t, .int .i64 sp] 34)
  have HU := hidP ((Below.refl y.heap.size y).alloc (Nat.le_refl _) (.cells #[.int .i64 6, .int .i64 s, .int .i64 q, .int .i64 n, .bool aS, .int .i64 aH.toInt, .int .i64 aL.toInt, .int .i64 ab, .int .i64 b, .bool hS, .int .i64 hH, .int .i64 hL, .string o, .int .i64 t, .int .i64 sp] 34))
  refine (oo_6 y.heap.size s q n aS aH.toInt aL.toInt ab b hS hH hL o t sp _ HX0.out).mono ?_
  rintro e w1 ⟨rfl, hx, hk⟩
  have c0 := hx.cel 0 _ rfl
  have c1 := hx.cel 1 _ rfl
  have c2 := hx.cel 2 _ rfl
  have c3 := hx.cel 3 _ rfl
  have c4 := hx.cel 4 _ rfl
  have c5 := hx.cel 5 _ rfl
  have c6 := hx.cel 6 _ rfl
  have c7 := hx.cel 7 _ rfl
  have c8 := hx.cel 8 _ rfl
  have c9 := hx.cel 9 _ rfl
  have c10 := hx.cel 10 _ rfl
  have c11 := hx.cel 11 _ rfl
  have c12 := hx.cel 12 _ rfl
  have c13 := hx.cel 13 _ rfl
  have c14 := hx.cel 14 _ rfl
  have HB1 := hidP (HU.out.trans hk.low)
  have h1 : y.heap.size ≤ w1.heap.size := HB1.out.size
  have hq := eqCm (0) (0) (0) (0) (false) (0) (0) (0) (b) (hS) (hH) (hL) (⟨#[]⟩) (t) (sp)
  clear hx hk HX0 HU
  generalize zCm (0) (0) (0) (0) (false) (0) (0) (0) (b) (hS) (hH) (hL) (⟨#[]⟩) (t) (sp) = Z at *
  cases Z
  · have HR : Hid ((false && fl.all (fun z => z.2)) = false) := hidP rfl
    go_wp2_with fail
    go_ret2
    exact ⟨Or.inr ⟨by rw [HR0.out]; exact HR.out, rfl⟩, HB1.out⟩
  · go_wp2_with fail
    refine (HFO.out _ (HT.out.below HB1.out)).mono ?_
    rintro e w2 ⟨a, c, rfl, ho, hb2⟩
    have HB2 := hidP (HB1.out.trans (hb2.mono h1))
    have h2 := HB2.out.size
    have HRow := hidP ho.row
    clear hb2 ho c0 c1 c2 c3 c4 c5 c6 c7 c8 c9 c10 c11 c12 c13 c14 hq
    go_wp2_with fail
    go_loopw [18] (fun t18 x => ∃ k : Nat, k ≤ 5 ∧ t18 = .int .i64 k ∧ Hid ((fl.take k).all (fun z => z.2) = true) ∧ Hid (Below w2.heap.size w2 x)) (fun t18 _ => 5 - (intOf t18).toNat)
    case atStart => exact ⟨0, by omega, rfl, hidP (by simp), hidP (Below.refl _ _)⟩
    case round =>
      obtain ⟨k, hk, rfl, HA, HB⟩ := hrel
      have h3 := HB.out.size
      by_cases hlt : k < 5
      · obtain ⟨p, o', z, rfl, hp, hz, d0, d1⟩ := rowF HRow.out k (by rw [HL.out]; exact hlt)
        have e0 := (HB.out.cell hp).trans d0
        have e1 := (HB.out.cell hp).trans d1
        have hlt' : (k : Int) < 5 := by omega
        have HS := hidP (all_snoc hz)
        have HN := hidP (all_not hz)
        clear d0 d1 hz
        obtain ⟨zt, zf⟩ := z
        cases zf
        · have HR : Hid ((true && fl.all (fun z => z.2)) = false) := hidP (by rw [Bool.true_and]; exact HN.out rfl)
          go_wp2_with fail
          go_ret2
          exact ⟨Or.inr ⟨by rw [HR0.out]; exact HR.out, rfl⟩, (HB2.out.trans (HB.out.mono h2)).alloc (by omega) _⟩
        · go_wp2_with fail
          go_roundw
          case rel => exact ⟨k + 1, by omega, by go_num, hidP (by rw [HS.out, HA.out]; rfl), hidP (HB.out.alloc h3 _)⟩
          case measure => simp [intOf]; omega
      · have HR : Hid ((true && fl.all (fun z => z.2)) = true) := hidP (by rw [Bool.true_and]; have := HA.out; rw [List.take_of_length_le (by rw [HL.out]; omega)] at this; exact this)
        have hkn : k = 5 := by omega
        subst hkn
        go_wp2_with fail
        go_ret2
        exact ⟨Or.inl ⟨by rw [HR0.out]; exact HR.out, rfl⟩, HB2.out.trans (HB.out.mono h2)⟩

set_option maxRecDepth 10000 in
set_option maxHeartbeats 4000000 in
theorem ro_7 (s q n : Int) (aS : Bool) (aH aL : BitVec 64) (ab b : Int) (hS : Bool) (hH hL : Int) (o : ByteArray) (t sp : Int) (TA TH : List UInt8) (HI : Hid (CmI s q n b t sp o)) (HTA : Hid (TA.length ≤ 200 ∧ ∀ w : World, Tabs w → Calls Tryd.prog 48 #[.agg #[.bool aS, .int .i64 aH.toInt, .int .i64 aL.toInt, .int .i64 ab]] w fun e w' => e = .returned (.string ⟨TA.toArray⟩) ∧ Below w.heap.size w w')) (HTH : Hid (TH.length ≤ 200 ∧ ∀ w : World, Tabs w → Calls Tryd.prog 51 #[.agg #[.bool hS, .int .i64 hH, .int .i64 hL]] w fun e w' => e = .returned (.string ⟨TH.toArray⟩) ∧ Below w.heap.size w w')) (y : World) (ht : Tabs y) :
    Calls Tryd.prog 20 #[.agg #[.int .i64 7, .int .i64 s, .int .i64 q, .int .i64 n, .bool aS, .int .i64 aH.toInt, .int .i64 aL.toInt, .int .i64 ab, .int .i64 b, .bool hS, .int .i64 hH, .int .i64 hL, .string o, .int .i64 t, .int .i64 sp]] y fun e w' => (((zCm (0) (0) (0) (0) (false) (0) (0) (0) (b) (hS) (hH) (hL) (⟨#[]⟩) (t) (0) && [((fT ⟨#[115, 101, 115, 115, 105, 111, 110]⟩ s), (rB 1 s 1000000)), ((fT ⟨#[115, 101, 113]⟩ q), (rB 1 q 1000000)), ((fT ⟨#[110, 111, 119]⟩ n), (rB 0 n 1000000000)), ((aT TA), (pokB aS aH aL ab)), ((oT o), (ownB o)), ((fT ⟨#[115, 112, 97, 110]⟩ sp), (rB 1 sp 1000))].all (fun z => z.2)) = true ∧ e = .returned (.tuple #[.iface 86 (.agg #[.int .i64 s, .int .i64 q, .int .i64 n, .bool aS, .int .i64 aH.toInt, .int .i64 aL.toInt, .int .i64 ab, .string o, .int .i64 sp]), .bool true])) ∨ ((zCm (0) (0) (0) (0) (false) (0) (0) (0) (b) (hS) (hH) (hL) (⟨#[]⟩) (t) (0) && [((fT ⟨#[115, 101, 115, 115, 105, 111, 110]⟩ s), (rB 1 s 1000000)), ((fT ⟨#[115, 101, 113]⟩ q), (rB 1 q 1000000)), ((fT ⟨#[110, 111, 119]⟩ n), (rB 0 n 1000000000)), ((aT TA), (pokB aS aH aL ab)), ((oT o), (ownB o)), ((fT ⟨#[115, 112, 97, 110]⟩ sp), (rB 1 sp 1000))].all (fun z => z.2)) = false ∧ e = .returned (.tuple #[.nilIface, .bool false]))) ∧ Below y.heap.size y w' := by
  have HT := hidP ht
  have HFO := hidP (fun w (h : Tabs w) => fo_7 s q n aS aH aL ab b hS hH hL o t sp TA TH HI HTA HTH w h)
  have hlen : [((fT ⟨#[115, 101, 115, 115, 105, 111, 110]⟩ s), (rB 1 s 1000000)), ((fT ⟨#[115, 101, 113]⟩ q), (rB 1 q 1000000)), ((fT ⟨#[110, 111, 119]⟩ n), (rB 0 n 1000000000)), ((aT TA), (pokB aS aH aL ab)), ((oT o), (ownB o)), ((fT ⟨#[115, 112, 97, 110]⟩ sp), (rB 1 sp 1000))].length = 6 := rfl
  generalize [((fT ⟨#[115, 101, 115, 115, 105, 111, 110]⟩ s), (rB 1 s 1000000)), ((fT ⟨#[115, 101, 113]⟩ q), (rB 1 q 1000000)), ((fT ⟨#[110, 111, 119]⟩ n), (rB 0 n 1000000000)), ((aT TA), (pokB aS aH aL ab)), ((oT o), (ownB o)), ((fT ⟨#[115, 112, 97, 110]⟩ sp), (rB 1 sp 1000))] = fl at *
  have HL := hidP hlen
  obtain ⟨R, hR⟩ : ∃ R : Bool, R = (zCm (0) (0) (0) (0) (false) (0) (0) (0) (b) (hS) (hH) (hL) (⟨#[]⟩) (t) (0) && fl.all (fun z => z.2)) := ⟨_, rfl⟩
  rw [← hR]
  have HR0 := hidP hR
  clear hR
  clear ht hlen HI HTA HTH
  go_enter Tryd.func20, Tryd.ntmps20
  go_wp2_with fail
  have HX0 := hidP (Bx.new y [.int .i64 7, .int .i64 s, .int .i64 q, .int .i64 n, .bool aS, .int .i64 aH.toInt, .int .i64 aL.toInt, .int .i64 ab, .int .i64 b, .bool hS, .int .i64 hH, .int .i64 hL, .string o, .int .i64 t, .int .i64 sp] 34)
  have HU := hidP ((Below.refl y.heap.size y).alloc (Nat.le_refl _) (.cells #[.int .i64 7, .int .i64 s, .int .i64 q, .int .i64 n, .bool aS, .int .i64 aH.toInt, .int .i64 aL.toInt, .int .i64 ab, .int .i64 b, .bool hS, .int .i64 hH, .int .i64 hL, .string o, .int .i64 t, .int .i64 sp] 34))
  refine (oo_7 y.heap.size s q n aS aH.toInt aL.toInt ab b hS hH hL o t sp _ HX0.out).mono ?_
  rintro e w1 ⟨rfl, hx, hk⟩
  have c0 := hx.cel 0 _ rfl
  have c1 := hx.cel 1 _ rfl
  have c2 := hx.cel 2 _ rfl
  have c3 := hx.cel 3 _ rfl
  have c4 := hx.cel 4 _ rfl
  have c5 := hx.cel 5 _ rfl
  have c6 := hx.cel 6 _ rfl
  have c7 := hx.cel 7 _ rfl
  have c8 := hx.cel 8 _ rfl
  have c9 := hx.cel 9 _ rfl
  have c10 := hx.cel 10 _ rfl
  have c11 := hx.cel 11 _ rfl
  have c12 := hx.cel 12 _ rfl
  have c13 := hx.cel 13 _ rfl
  have c14 := hx.cel 14 _ rfl
  have HB1 := hidP (HU.out.trans hk.low)
  have h1 : y.heap.size ≤ w1.heap.size := HB1.out.size
  have hq := eqCm (0) (0) (0) (0) (false) (0) (0) (0) (b) (hS) (hH) (hL) (⟨#[]⟩) (t) (0)
  clear hx hk HX0 HU
  generalize zCm (0) (0) (0) (0) (false) (0) (0) (0) (b) (hS) (hH) (hL) (⟨#[]⟩) (t) (0) = Z at *
  cases Z
  · have HR : Hid ((false && fl.all (fun z => z.2)) = false) := hidP rfl
    go_wp2_with fail
    go_ret2
    exact ⟨Or.inr ⟨by rw [HR0.out]; exact HR.out, rfl⟩, HB1.out⟩
  · go_wp2_with fail
    refine (HFO.out _ (HT.out.below HB1.out)).mono ?_
    rintro e w2 ⟨a, c, rfl, ho, hb2⟩
    have HB2 := hidP (HB1.out.trans (hb2.mono h1))
    have h2 := HB2.out.size
    have HRow := hidP ho.row
    clear hb2 ho c0 c1 c2 c3 c4 c5 c6 c7 c8 c9 c10 c11 c12 c13 c14 hq
    go_wp2_with fail
    go_loopw [18] (fun t18 x => ∃ k : Nat, k ≤ 6 ∧ t18 = .int .i64 k ∧ Hid ((fl.take k).all (fun z => z.2) = true) ∧ Hid (Below w2.heap.size w2 x)) (fun t18 _ => 6 - (intOf t18).toNat)
    case atStart => exact ⟨0, by omega, rfl, hidP (by simp), hidP (Below.refl _ _)⟩
    case round =>
      obtain ⟨k, hk, rfl, HA, HB⟩ := hrel
      have h3 := HB.out.size
      by_cases hlt : k < 6
      · obtain ⟨p, o', z, rfl, hp, hz, d0, d1⟩ := rowF HRow.out k (by rw [HL.out]; exact hlt)
        have e0 := (HB.out.cell hp).trans d0
        have e1 := (HB.out.cell hp).trans d1
        have hlt' : (k : Int) < 6 := by omega
        have HS := hidP (all_snoc hz)
        have HN := hidP (all_not hz)
        clear d0 d1 hz
        obtain ⟨zt, zf⟩ := z
        cases zf
        · have HR : Hid ((true && fl.all (fun z => z.2)) = false) := hidP (by rw [Bool.true_and]; exact HN.out rfl)
          go_wp2_with fail
          go_ret2
          exact ⟨Or.inr ⟨by rw [HR0.out]; exact HR.out, rfl⟩, (HB2.out.trans (HB.out.mono h2)).alloc (by omega) _⟩
        · go_wp2_with fail
          go_roundw
          case rel => exact ⟨k + 1, by omega, by go_num, hidP (by rw [HS.out, HA.out]; rfl), hidP (HB.out.alloc h3 _)⟩
          case measure => simp [intOf]; omega
      · have HR : Hid ((true && fl.all (fun z => z.2)) = true) := hidP (by rw [Bool.true_and]; have := HA.out; rw [List.take_of_length_le (by rw [HL.out]; omega)] at this; exact this)
        have hkn : k = 6 := by omega
        subst hkn
        go_wp2_with fail
        go_ret2
        exact ⟨Or.inl ⟨by rw [HR0.out]; exact HR.out, rfl⟩, HB2.out.trans (HB.out.mono h2)⟩

end Go.Proofs.YtoadckdokdcppaaDoor
