/-
  The program's text of a command, by kind.
-/
import Derived.Test.YtoadckdokdcppaaDoorGRow2
import Derived.Test.YtoadckdokdcppaaDoorGCmI
import Derived.Test.YtoadckdokdcppaaDoorGRa
import Derived.Test.YtoadckdokdcppaaDoorGRb
import Derived.Test.YtoadckdokdcppaaDoorGRc
import Derived.Test.YtoadckdokdcppaaDoorGRd
import Derived.Test.YtoadckdokdcppaaDoorGRe
namespace Go.Proofs.YtoadckdokdcppaaDoor
open Go.RowKit

/-- A word and fields behind it. -/
def jn (W : ByteArray) (l : List (ByteArray × Bool)) : ByteArray := l.foldl (fun a z => a ++ ((⟨#[32]⟩ : ByteArray) ++ z.1)) W
theorem jn_snoc {W : ByteArray} {fl : List (ByteArray × Bool)} {k : Nat} {z : ByteArray × Bool} (h : fl[k]? = some z) : jn W (fl.take (k + 1)) = jn W (fl.take k) ++ ((⟨#[32]⟩ : ByteArray) ++ z.1) := by
  obtain ⟨hk, rfl⟩ := List.getElem?_eq_some_iff.mp h
  unfold jn
  rw [List.take_succ_eq_append_getElem hk, List.foldl_append]; rfl
theorem jn_len (W : ByteArray) (hW : W.size ≤ 20) : ∀ (l : List (ByteArray × Bool)), (∀ z ∈ l, z.1.size ≤ 1048600) → ∀ A : ByteArray, (l.foldl (fun a z => a ++ ((⟨#[32]⟩ : ByteArray) ++ z.1)) A).size ≤ A.size + l.length * 1048601
  | [], _, A => by simp
  | z :: l, h, A => by
    have h1 := jn_len W hW l (fun z hz => h z (List.mem_cons_of_mem _ hz)) (A ++ ((⟨#[32]⟩ : ByteArray) ++ z.1))
    have h2 := h z (List.mem_cons_self ..)
    have h3 : (A ++ ((⟨#[32]⟩ : ByteArray) ++ z.1)).size = A.size + (1 + z.1.size) := by simp [ByteArray.size_append]; rfl
    rw [List.foldl_cons, List.length_cons]
    omega
theorem jn_size {W : ByteArray} (hW : W.size ≤ 20) {fl : List (ByteArray × Bool)} (hf : ∀ z ∈ fl, z.1.size ≤ 1048600) (hl : fl.length ≤ 9) (k : Nat) : (jn W (fl.take k)).size ≤ 10000000 := by
  have h1 := jn_len W hW (fl.take k) (fun z hz => hf z (List.mem_of_mem_take hz)) W
  have h2 : (fl.take k).length ≤ 9 := by rw [List.length_take]; omega
  unfold jn
  have : (fl.take k).length * 1048601 ≤ 9 * 1048601 := Nat.mul_le_mul_right _ h2
  omega

end Go.Proofs.YtoadckdokdcppaaDoor

namespace Go.Proofs.YtoadckdokdcppaaDoor
open Go.RowKit

theorem wd_1 (n : Int) (w : World) : Calls Tryd.prog 104 #[.agg #[.int .i64 n]] w fun e w' => e = .returned (.string ⟨#[111, 112, 101, 110]⟩) ∧ Below w.heap.size w w' := by
  go_enter Tryd.func104, Tryd.ntmps104
  go_wp2
  go_ret
  exact ⟨rfl, (Below.refl _ _).alloc (Nat.le_refl _) _⟩
theorem Tryd.mw_1 (n : Int) (w : World) : (Go.method 265 69 (.agg #[.int .i64 n]) "loop.example/g00113/impl.word").run Tryd.prog w = .ok (104, .agg #[.int .i64 n]) w := by kernel_rfl
set_option maxRecDepth 10000 in
set_option maxHeartbeats 2000000 in
theorem tx_1 (s q n : Int) (aS : Bool) (aH aL : BitVec 64) (ab b : Int) (hS : Bool) (hH hL : Int) (o : ByteArray) (t sp : Int) (TA TH : List UInt8) (hfs : ∀ z ∈ [((fT ⟨#[110, 111, 119]⟩ n), (rB 0 n 1000000000))], z.1.size ≤ 1048600) (HI : Hid (CmI s q n b t sp o)) (HTA : Hid (TA.length ≤ 200 ∧ ∀ w : World, Tabs w → Calls Tryd.prog 48 #[.agg #[.bool aS, .int .i64 aH.toInt, .int .i64 aL.toInt, .int .i64 ab]] w fun e w' => e = .returned (.string ⟨TA.toArray⟩) ∧ Below w.heap.size w w')) (HTH : Hid (TH.length ≤ 200 ∧ ∀ w : World, Tabs w → Calls Tryd.prog 51 #[.agg #[.bool hS, .int .i64 hH, .int .i64 hL]] w fun e w' => e = .returned (.string ⟨TH.toArray⟩) ∧ Below w.heap.size w w')) (y : World) (ht : Tabs y) :
    Calls Tryd.prog 10 #[.agg #[.int .i64 1, .int .i64 s, .int .i64 q, .int .i64 n, .bool aS, .int .i64 aH.toInt, .int .i64 aL.toInt, .int .i64 ab, .int .i64 b, .bool hS, .int .i64 hH, .int .i64 hL, .string o, .int .i64 t, .int .i64 sp]] y fun e w' => (((zCm (0) (s) (q) (0) (aS) (aH.toInt) (aL.toInt) (ab) (b) (hS) (hH) (hL) (o) (t) (sp) && [((fT ⟨#[110, 111, 119]⟩ n), (rB 0 n 1000000000))].all (fun z => z.2)) = true ∧ e = .returned (.string (jn ⟨#[111, 112, 101, 110]⟩ [((fT ⟨#[110, 111, 119]⟩ n), (rB 0 n 1000000000))]))) ∨ ((zCm (0) (s) (q) (0) (aS) (aH.toInt) (aL.toInt) (ab) (b) (hS) (hH) (hL) (o) (t) (sp) && [((fT ⟨#[110, 111, 119]⟩ n), (rB 0 n 1000000000))].all (fun z => z.2)) = false ∧ e = .returned (.string ⟨#[]⟩))) ∧ Below y.heap.size y w' := by
  have HT := hidP ht
  have HFO := hidP (fun w (h : Tabs w) => fo_1 s q n aS aH aL ab b hS hH hL o t sp TA TH HI HTA HTH w h)
  have HRO := hidP (fun w (h : Tabs w) => ro_1 s q n aS aH aL ab b hS hH hL o t sp TA TH HI HTA HTH w h)
  have hlen : [((fT ⟨#[110, 111, 119]⟩ n), (rB 0 n 1000000000))].length = 1 := rfl
  generalize [((fT ⟨#[110, 111, 119]⟩ n), (rB 0 n 1000000000))] = fl at *
  have HL := hidP hlen
  obtain ⟨R, hR⟩ : ∃ R : Bool, R = (zCm (0) (s) (q) (0) (aS) (aH.toInt) (aL.toInt) (ab) (b) (hS) (hH) (hL) (o) (t) (sp) && fl.all (fun z => z.2)) := ⟨_, rfl⟩
  rw [← hR]
  have HR0 := hidP hR
  have HSz := hidP (fun k => jn_size (W := ⟨#[111, 112, 101, 110]⟩) (by decide) hfs (by omega) k)
  have HFz := hidP hfs
  clear hR ht hlen HI HTA HTH hfs
  have HU := hidP ((Below.refl y.heap.size y).alloc (Nat.le_refl _) (.cells #[.int .i64 1, .int .i64 s, .int .i64 q, .int .i64 n, .bool aS, .int .i64 aH.toInt, .int .i64 aL.toInt, .int .i64 ab, .int .i64 b, .bool hS, .int .i64 hH, .int .i64 hL, .string o, .int .i64 t, .int .i64 sp] 34))
  go_enter Tryd.func10, Tryd.ntmps10
  go_wp2_with fail
  refine (HRO.out _ (HT.out.below HU.out)).mono ?_
  rintro e w1 ⟨⟨h1, rfl⟩ | ⟨h1, rfl⟩, hb1⟩
  · have HB1 := hidP (HU.out.trans (hb1.mono HU.out.size))
    have z1 := HB1.out.size
    clear hb1 HRO
    have mw := fun w => Tryd.mw_1 n w
    go_wp2_with fail
    refine (wd_1 n _).mono ?_
    rintro e w3 ⟨rfl, hb3⟩
    have HB3 := hidP (HB1.out.trans (hb3.mono z1))
    have z3 := HB3.out.size
    clear mw hb3 HB1
    go_wp2_with fail
    refine (HFO.out _ (HT.out.below HB3.out)).mono ?_
    rintro e w2 ⟨a, c, rfl, ho, hb2⟩
    have HB2 := hidP (HB3.out.trans (hb2.mono z3))
    have z2 := HB2.out.size
    have HRow := hidP ho.row
    clear hb2 ho
    go_wp2_with fail
    go_loopw [5, 20] (fun t5 t20 x => ∃ k : Nat, k ≤ 1 ∧ t5 = .string (jn ⟨#[111, 112, 101, 110]⟩ (fl.take k)) ∧ t20 = .int .i64 k ∧ Hid (Below w2.heap.size w2 x)) (fun _ t20 _ => 1 - (intOf t20).toNat)
    case atStart => exact ⟨0, by omega, rfl, rfl, hidP (Below.refl _ _)⟩
    case round =>
      obtain ⟨k, hk, rfl, rfl, HB⟩ := hrel
      have h3 := HB.out.size
      by_cases hlt : k < 1
      · obtain ⟨p, o', z, rfl, hp, hz, d0, d1⟩ := rowF HRow.out k (by rw [HL.out]; exact hlt)
        have e0 := (HB.out.cell hp).trans d0
        have e1 := (HB.out.cell hp).trans d1
        have hlt' : (k : Int) < 1 := by omega
        have HS := hidP (jn_snoc (W := ⟨#[111, 112, 101, 110]⟩) hz)
        have s1 := HSz.out k
        have s2 := HFz.out z (List.mem_of_getElem? hz)
        clear d0 d1 hz
        obtain ⟨zt, zf⟩ := z
        have s3 : zt.size ≤ 1048600 := s2
        clear s2
        generalize jn ⟨#[111, 112, 101, 110]⟩ (fl.take k) = J at *
        go_wp2_with fail
        go_roundw
        case rel => exact ⟨k + 1, by omega, by rw [HS.out], by go_num, hidP (HB.out.alloc h3 _)⟩
        case measure => simp [intOf]; omega
      · have hkn : k = 1 := by omega
        subst hkn
        have HE : Hid (jn ⟨#[111, 112, 101, 110]⟩ (fl.take 1) = jn ⟨#[111, 112, 101, 110]⟩ fl) := hidP (by rw [List.take_of_length_le (by rw [HL.out]; omega)])
        go_wp2_with fail
        go_ret
        exact ⟨Or.inl ⟨by rw [HR0.out]; exact h1, ret_ba HE.out⟩, HB2.out.trans (HB.out.mono z2)⟩
  · have HB1 := hidP (HU.out.trans (hb1.mono HU.out.size))
    clear hb1
    go_wp2_with fail
    go_ret
    exact ⟨Or.inr ⟨by rw [HR0.out]; exact h1, rfl⟩, HB1.out⟩

theorem wd_2 (s : Int) (n : Int) (w : World) : Calls Tryd.prog 105 #[.agg #[.int .i64 s, .int .i64 n]] w fun e w' => e = .returned (.string ⟨#[99, 108, 111, 115, 101]⟩) ∧ Below w.heap.size w w' := by
  go_enter Tryd.func105, Tryd.ntmps105
  go_wp2
  go_ret
  exact ⟨rfl, (Below.refl _ _).alloc (Nat.le_refl _) _⟩
theorem Tryd.mw_2 (s : Int) (n : Int) (w : World) : (Go.method 265 72 (.agg #[.int .i64 s, .int .i64 n]) "loop.example/g00113/impl.word").run Tryd.prog w = .ok (105, .agg #[.int .i64 s, .int .i64 n]) w := by kernel_rfl
set_option maxRecDepth 10000 in
set_option maxHeartbeats 2000000 in
theorem tx_2 (s q n : Int) (aS : Bool) (aH aL : BitVec 64) (ab b : Int) (hS : Bool) (hH hL : Int) (o : ByteArray) (t sp : Int) (TA TH : List UInt8) (hfs : ∀ z ∈ [((fT ⟨#[115, 101, 115, 115, 105, 111, 110]⟩ s), (rB 1 s 1000000)), ((fT ⟨#[110, 111, 119]⟩ n), (rB 0 n 1000000000))], z.1.size ≤ 1048600) (HI : Hid (CmI s q n b t sp o)) (HTA : Hid (TA.length ≤ 200 ∧ ∀ w : World, Tabs w → Calls Tryd.prog 48 #[.agg #[.bool aS, .int .i64 aH.toInt, .int .i64 aL.toInt, .int .i64 ab]] w fun e w' => e = .returned (.string ⟨TA.toArray⟩) ∧ Below w.heap.size w w')) (HTH : Hid (TH.length ≤ 200 ∧ ∀ w : World, Tabs w → Calls Tryd.prog 51 #[.agg #[.bool hS, .int .i64 hH, .int .i64 hL]] w fun e w' => e = .returned (.string ⟨TH.toArray⟩) ∧ Below w.heap.size w w')) (y : World) (ht : Tabs y) :
    Calls Tryd.prog 10 #[.agg #[.int .i64 2, .int .i64 s, .int .i64 q, .int .i64 n, .bool aS, .int .i64 aH.toInt, .int .i64 aL.toInt, .int .i64 ab, .int .i64 b, .bool hS, .int .i64 hH, .int .i64 hL, .string o, .int .i64 t, .int .i64 sp]] y fun e w' => (((zCm (0) (0) (q) (0) (aS) (aH.toInt) (aL.toInt) (ab) (b) (hS) (hH) (hL) (o) (t) (sp) && [((fT ⟨#[115, 101, 115, 115, 105, 111, 110]⟩ s), (rB 1 s 1000000)), ((fT ⟨#[110, 111, 119]⟩ n), (rB 0 n 1000000000))].all (fun z => z.2)) = true ∧ e = .returned (.string (jn ⟨#[99, 108, 111, 115, 101]⟩ [((fT ⟨#[115, 101, 115, 115, 105, 111, 110]⟩ s), (rB 1 s 1000000)), ((fT ⟨#[110, 111, 119]⟩ n), (rB 0 n 1000000000))]))) ∨ ((zCm (0) (0) (q) (0) (aS) (aH.toInt) (aL.toInt) (ab) (b) (hS) (hH) (hL) (o) (t) (sp) && [((fT ⟨#[115, 101, 115, 115, 105, 111, 110]⟩ s), (rB 1 s 1000000)), ((fT ⟨#[110, 111, 119]⟩ n), (rB 0 n 1000000000))].all (fun z => z.2)) = false ∧ e = .returned (.string ⟨#[]⟩))) ∧ Below y.heap.size y w' := by
  have HT := hidP ht
  have HFO := hidP (fun w (h : Tabs w) => fo_2 s q n aS aH aL ab b hS hH hL o t sp TA TH HI HTA HTH w h)
  have HRO := hidP (fun w (h : Tabs w) => ro_2 s q n aS aH aL ab b hS hH hL o t sp TA TH HI HTA HTH w h)
  have hlen : [((fT ⟨#[115, 101, 115, 115, 105, 111, 110]⟩ s), (rB 1 s 1000000)), ((fT ⟨#[110, 111, 119]⟩ n), (rB 0 n 1000000000))].length = 2 := rfl
  generalize [((fT ⟨#[115, 101, 115, 115, 105, 111, 110]⟩ s), (rB 1 s 1000000)), ((fT ⟨#[110, 111, 119]⟩ n), (rB 0 n 1000000000))] = fl at *
  have HL := hidP hlen
  obtain ⟨R, hR⟩ : ∃ R : Bool, R = (zCm (0) (0) (q) (0) (aS) (aH.toInt) (aL.toInt) (ab) (b) (hS) (hH) (hL) (o) (t) (sp) && fl.all (fun z => z.2)) := ⟨_, rfl⟩
  rw [← hR]
  have HR0 := hidP hR
  have HSz := hidP (fun k => jn_size (W := ⟨#[99, 108, 111, 115, 101]⟩) (by decide) hfs (by omega) k)
  have HFz := hidP hfs
  clear hR ht hlen HI HTA HTH hfs
  have HU := hidP ((Below.refl y.heap.size y).alloc (Nat.le_refl _) (.cells #[.int .i64 2, .int .i64 s, .int .i64 q, .int .i64 n, .bool aS, .int .i64 aH.toInt, .int .i64 aL.toInt, .int .i64 ab, .int .i64 b, .bool hS, .int .i64 hH, .int .i64 hL, .string o, .int .i64 t, .int .i64 sp] 34))
  go_enter Tryd.func10, Tryd.ntmps10
  go_wp2_with fail
  refine (HRO.out _ (HT.out.below HU.out)).mono ?_
  rintro e w1 ⟨⟨h1, rfl⟩ | ⟨h1, rfl⟩, hb1⟩
  · have HB1 := hidP (HU.out.trans (hb1.mono HU.out.size))
    have z1 := HB1.out.size
    clear hb1 HRO
    have mw := fun w => Tryd.mw_2 s n w
    go_wp2_with fail
    refine (wd_2 s n _).mono ?_
    rintro e w3 ⟨rfl, hb3⟩
    have HB3 := hidP (HB1.out.trans (hb3.mono z1))
    have z3 := HB3.out.size
    clear mw hb3 HB1
    go_wp2_with fail
    refine (HFO.out _ (HT.out.below HB3.out)).mono ?_
    rintro e w2 ⟨a, c, rfl, ho, hb2⟩
    have HB2 := hidP (HB3.out.trans (hb2.mono z3))
    have z2 := HB2.out.size
    have HRow := hidP ho.row
    clear hb2 ho
    go_wp2_with fail
    go_loopw [5, 20] (fun t5 t20 x => ∃ k : Nat, k ≤ 2 ∧ t5 = .string (jn ⟨#[99, 108, 111, 115, 101]⟩ (fl.take k)) ∧ t20 = .int .i64 k ∧ Hid (Below w2.heap.size w2 x)) (fun _ t20 _ => 2 - (intOf t20).toNat)
    case atStart => exact ⟨0, by omega, rfl, rfl, hidP (Below.refl _ _)⟩
    case round =>
      obtain ⟨k, hk, rfl, rfl, HB⟩ := hrel
      have h3 := HB.out.size
      by_cases hlt : k < 2
      · obtain ⟨p, o', z, rfl, hp, hz, d0, d1⟩ := rowF HRow.out k (by rw [HL.out]; exact hlt)
        have e0 := (HB.out.cell hp).trans d0
        have e1 := (HB.out.cell hp).trans d1
        have hlt' : (k : Int) < 2 := by omega
        have HS := hidP (jn_snoc (W := ⟨#[99, 108, 111, 115, 101]⟩) hz)
        have s1 := HSz.out k
        have s2 := HFz.out z (List.mem_of_getElem? hz)
        clear d0 d1 hz
        obtain ⟨zt, zf⟩ := z
        have s3 : zt.size ≤ 1048600 := s2
        clear s2
        generalize jn ⟨#[99, 108, 111, 115, 101]⟩ (fl.take k) = J at *
        go_wp2_with fail
        go_roundw
        case rel => exact ⟨k + 1, by omega, by rw [HS.out], by go_num, hidP (HB.out.alloc h3 _)⟩
        case measure => simp [intOf]; omega
      · have hkn : k = 2 := by omega
        subst hkn
        have HE : Hid (jn ⟨#[99, 108, 111, 115, 101]⟩ (fl.take 2) = jn ⟨#[99, 108, 111, 115, 101]⟩ fl) := hidP (by rw [List.take_of_length_le (by rw [HL.out]; omega)])
        go_wp2_with fail
        go_ret
        exact ⟨Or.inl ⟨by rw [HR0.out]; exact h1, ret_ba HE.out⟩, HB2.out.trans (HB.out.mono z2)⟩
  · have HB1 := hidP (HU.out.trans (hb1.mono HU.out.size))
    clear hb1
    go_wp2_with fail
    go_ret
    exact ⟨Or.inr ⟨by rw [HR0.out]; exact h1, rfl⟩, HB1.out⟩

end Go.Proofs.YtoadckdokdcppaaDoor

namespace Go.Proofs.YtoadckdokdcppaaDoor
open Go.RowKit

theorem wd_3 (s : Int) (q : Int) (n : Int) (aS : Bool) (aH : BitVec 64) (aL : BitVec 64) (ab : Int) (b : Int) (w : World) : Calls Tryd.prog 106 #[.agg #[.int .i64 s, .int .i64 q, .int .i64 n, .bool aS, .int .i64 aH.toInt, .int .i64 aL.toInt, .int .i64 ab, .int .i64 b]] w fun e w' => e = .returned (.string ⟨#[97, 100, 100, 45, 112, 111, 111, 108]⟩) ∧ Below w.heap.size w w' := by
  go_enter Tryd.func106, Tryd.ntmps106
  go_wp2
  go_ret
  exact ⟨rfl, (Below.refl _ _).alloc (Nat.le_refl _) _⟩
theorem Tryd.mw_3 (s : Int) (q : Int) (n : Int) (aS : Bool) (aH : BitVec 64) (aL : BitVec 64) (ab : Int) (b : Int) (w : World) : (Go.method 265 76 (.agg #[.int .i64 s, .int .i64 q, .int .i64 n, .bool aS, .int .i64 aH.toInt, .int .i64 aL.toInt, .int .i64 ab, .int .i64 b]) "loop.example/g00113/impl.word").run Tryd.prog w = .ok (106, .agg #[.int .i64 s, .int .i64 q, .int .i64 n, .bool aS, .int .i64 aH.toInt, .int .i64 aL.toInt, .int .i64 ab, .int .i64 b]) w := by kernel_rfl
set_option maxRecDepth 10000 in
set_option maxHeartbeats 2000000 in
theorem tx_3 (s q n : Int) (aS : Bool) (aH aL : BitVec 64) (ab b : Int) (hS : Bool) (hH hL : Int) (o : ByteArray) (t sp : Int) (TA TH : List UInt8) (hfs : ∀ z ∈ [((fT ⟨#[115, 101, 115, 115, 105, 111, 110]⟩ s), (rB 1 s 1000000)), ((fT ⟨#[115, 101, 113]⟩ q), (rB 1 q 1000000)), ((fT ⟨#[110, 111, 119]⟩ n), (rB 0 n 1000000000)), ((aT TA), (pokB aS aH aL ab)), ((fT ⟨#[98, 105, 116, 115]⟩ b), (rB 0 b 128))], z.1.size ≤ 1048600) (HI : Hid (CmI s q n b t sp o)) (HTA : Hid (TA.length ≤ 200 ∧ ∀ w : World, Tabs w → Calls Tryd.prog 48 #[.agg #[.bool aS, .int .i64 aH.toInt, .int .i64 aL.toInt, .int .i64 ab]] w fun e w' => e = .returned (.string ⟨TA.toArray⟩) ∧ Below w.heap.size w w')) (HTH : Hid (TH.length ≤ 200 ∧ ∀ w : World, Tabs w → Calls Tryd.prog 51 #[.agg #[.bool hS, .int .i64 hH, .int .i64 hL]] w fun e w' => e = .returned (.string ⟨TH.toArray⟩) ∧ Below w.heap.size w w')) (y : World) (ht : Tabs y) :
    Calls Tryd.prog 10 #[.agg #[.int .i64 3, .int .i64 s, .int .i64 q, .int .i64 n, .bool aS, .int .i64 aH.toInt, .int .i64 aL.toInt, .int .i64 ab, .int .i64 b, .bool hS, .int .i64 hH, .int .i64 hL, .string o, .int .i64 t, .int .i64 sp]] y fun e w' => (((zCm (0) (0) (0) (0) (false) (0) (0) (0) (0) (hS) (hH) (hL) (o) (t) (sp) && [((fT ⟨#[115, 101, 115, 115, 105, 111, 110]⟩ s), (rB 1 s 1000000)), ((fT ⟨#[115, 101, 113]⟩ q), (rB 1 q 1000000)), ((fT ⟨#[110, 111, 119]⟩ n), (rB 0 n 1000000000)), ((aT TA), (pokB aS aH aL ab)), ((fT ⟨#[98, 105, 116, 115]⟩ b), (rB 0 b 128))].all (fun z => z.2)) = true ∧ e = .returned (.string (jn ⟨#[97, 100, 100, 45, 112, 111, 111, 108]⟩ [((fT ⟨#[115, 101, 115, 115, 105, 111, 110]⟩ s), (rB 1 s 1000000)), ((fT ⟨#[115, 101, 113]⟩ q), (rB 1 q 1000000)), ((fT ⟨#[110, 111, 119]⟩ n), (rB 0 n 1000000000)), ((aT TA), (pokB aS aH aL ab)), ((fT ⟨#[98, 105, 116, 115]⟩ b), (rB 0 b 128))]))) ∨ ((zCm (0) (0) (0) (0) (false) (0) (0) (0) (0) (hS) (hH) (hL) (o) (t) (sp) && [((fT ⟨#[115, 101, 115, 115, 105, 111, 110]⟩ s), (rB 1 s 1000000)), ((fT ⟨#[115, 101, 113]⟩ q), (rB 1 q 1000000)), ((fT ⟨#[110, 111, 119]⟩ n), (rB 0 n 1000000000)), ((aT TA), (pokB aS aH aL ab)), ((fT ⟨#[98, 105, 116, 115]⟩ b), (rB 0 b 128))].all (fun z => z.2)) = false ∧ e = .returned (.string ⟨#[]⟩))) ∧ Below y.heap.size y w' := by
  have HT := hidP ht
  have HFO := hidP (fun w (h : Tabs w) => fo_3 s q n aS aH aL ab b hS hH hL o t sp TA TH HI HTA HTH w h)
  have HRO := hidP (fun w (h : Tabs w) => ro_3 s q n aS aH aL ab b hS hH hL o t sp TA TH HI HTA HTH w h)
  have hlen : [((fT ⟨#[115, 101, 115, 115, 105, 111, 110]⟩ s), (rB 1 s 1000000)), ((fT ⟨#[115, 101, 113]⟩ q), (rB 1 q 1000000)), ((fT ⟨#[110, 111, 119]⟩ n), (rB 0 n 1000000000)), ((aT TA), (pokB aS aH aL ab)), ((fT ⟨#[98, 105, 116, 115]⟩ b), (rB 0 b 128))].length = 5 := rfl
  generalize [((fT ⟨#[115, 101, 115, 115, 105, 111, 110]⟩ s), (rB 1 s 1000000)), ((fT ⟨#[115, 101, 113]⟩ q), (rB 1 q 1000000)), ((fT ⟨#[110, 111, 119]⟩ n), (rB 0 n 1000000000)), ((aT TA), (pokB aS aH aL ab)), ((fT ⟨#[98, 105, 116, 115]⟩ b), (rB 0 b 128))] = fl at *
  have HL := hidP hlen
  obtain ⟨R, hR⟩ : ∃ R : Bool, R = (zCm (0) (0) (0) (0) (false) (0) (0) (0) (0) (hS) (hH) (hL) (o) (t) (sp) && fl.all (fun z => z.2)) := ⟨_, rfl⟩
  rw [← hR]
  have HR0 := hidP hR
  have HSz := hidP (fun k => jn_size (W := ⟨#[97, 100, 100, 45, 112, 111, 111, 108]⟩) (by decide) hfs (by omega) k)
  have HFz := hidP hfs
  clear hR ht hlen HI HTA HTH hfs
  have HU := hidP ((Below.refl y.heap.size y).alloc (Nat.le_refl _) (.cells #[.int .i64 3, .int .i64 s, .int .i64 q, .int .i64 n, .bool aS, .int .i64 aH.toInt, .int .i64 aL.toInt, .int .i64 ab, .int .i64 b, .bool hS, .int .i64 hH, .int .i64 hL, .string o, .int .i64 t, .int .i64 sp] 34))
  go_enter Tryd.func10, Tryd.ntmps10
  go_wp2_with fail
  refine (HRO.out _ (HT.out.below HU.out)).mono ?_
  rintro e w1 ⟨⟨h1, rfl⟩ | ⟨h1, rfl⟩, hb1⟩
  · have HB1 := hidP (HU.out.trans (hb1.mono HU.out.size))
    have z1 := HB1.out.size
    clear hb1 HRO
    have mw := fun w => Tryd.mw_3 s q n aS aH aL ab b w
    go_wp2_with fail
    refine (wd_3 s q n aS aH aL ab b _).mono ?_
    rintro e w3 ⟨rfl, hb3⟩
    have HB3 := hidP (HB1.out.trans (hb3.mono z1))
    have z3 := HB3.out.size
    clear mw hb3 HB1
    go_wp2_with fail
    refine (HFO.out _ (HT.out.below HB3.out)).mono ?_
    rintro e w2 ⟨a, c, rfl, ho, hb2⟩
    have HB2 := hidP (HB3.out.trans (hb2.mono z3))
    have z2 := HB2.out.size
    have HRow := hidP ho.row
    clear hb2 ho
    go_wp2_with fail
    go_loopw [5, 20] (fun t5 t20 x => ∃ k : Nat, k ≤ 5 ∧ t5 = .string (jn ⟨#[97, 100, 100, 45, 112, 111, 111, 108]⟩ (fl.take k)) ∧ t20 = .int .i64 k ∧ Hid (Below w2.heap.size w2 x)) (fun _ t20 _ => 5 - (intOf t20).toNat)
    case atStart => exact ⟨0, by omega, rfl, rfl, hidP (Below.refl _ _)⟩
    case round =>
      obtain ⟨k, hk, rfl, rfl, HB⟩ := hrel
      have h3 := HB.out.size
      by_cases hlt : k < 5
      · obtain ⟨p, o', z, rfl, hp, hz, d0, d1⟩ := rowF HRow.out k (by rw [HL.out]; exact hlt)
        have e0 := (HB.out.cell hp).trans d0
        have e1 := (HB.out.cell hp).trans d1
        have hlt' : (k : Int) < 5 := by omega
        have HS := hidP (jn_snoc (W := ⟨#[97, 100, 100, 45, 112, 111, 111, 108]⟩) hz)
        have s1 := HSz.out k
        have s2 := HFz.out z (List.mem_of_getElem? hz)
        clear d0 d1 hz
        obtain ⟨zt, zf⟩ := z
        have s3 : zt.size ≤ 1048600 := s2
        clear s2
        generalize jn ⟨#[97, 100, 100, 45, 112, 111, 111, 108]⟩ (fl.take k) = J at *
        go_wp2_with fail
        go_roundw
        case rel => exact ⟨k + 1, by omega, by rw [HS.out], by go_num, hidP (HB.out.alloc h3 _)⟩
        case measure => simp [intOf]; omega
      · have hkn : k = 5 := by omega
        subst hkn
        have HE : Hid (jn ⟨#[97, 100, 100, 45, 112, 111, 111, 108]⟩ (fl.take 5) = jn ⟨#[97, 100, 100, 45, 112, 111, 111, 108]⟩ fl) := hidP (by rw [List.take_of_length_le (by rw [HL.out]; omega)])
        go_wp2_with fail
        go_ret
        exact ⟨Or.inl ⟨by rw [HR0.out]; exact h1, ret_ba HE.out⟩, HB2.out.trans (HB.out.mono z2)⟩
  · have HB1 := hidP (HU.out.trans (hb1.mono HU.out.size))
    clear hb1
    go_wp2_with fail
    go_ret
    exact ⟨Or.inr ⟨by rw [HR0.out]; exact h1, rfl⟩, HB1.out⟩

theorem wd_4 (s : Int) (q : Int) (n : Int) (aS : Bool) (aH : BitVec 64) (aL : BitVec 64) (ab : Int) (w : World) : Calls Tryd.prog 107 #[.agg #[.int .i64 s, .int .i64 q, .int .i64 n, .bool aS, .int .i64 aH.toInt, .int .i64 aL.toInt, .int .i64 ab]] w fun e w' => e = .returned (.string ⟨#[100, 114, 111, 112, 45, 112, 111, 111, 108]⟩) ∧ Below w.heap.size w w' := by
  go_enter Tryd.func107, Tryd.ntmps107
  go_wp2
  go_ret
  exact ⟨rfl, (Below.refl _ _).alloc (Nat.le_refl _) _⟩
theorem Tryd.mw_4 (s : Int) (q : Int) (n : Int) (aS : Bool) (aH : BitVec 64) (aL : BitVec 64) (ab : Int) (w : World) : (Go.method 265 80 (.agg #[.int .i64 s, .int .i64 q, .int .i64 n, .bool aS, .int .i64 aH.toInt, .int .i64 aL.toInt, .int .i64 ab]) "loop.example/g00113/impl.word").run Tryd.prog w = .ok (107, .agg #[.int .i64 s, .int .i64 q, .int .i64 n, .bool aS, .int .i64 aH.toInt, .int .i64 aL.toInt, .int .i64 ab]) w := by kernel_rfl
set_option maxRecDepth 10000 in
set_option maxHeartbeats 2000000 in
theorem tx_4 (s q n : Int) (aS : Bool) (aH aL : BitVec 64) (ab b : Int) (hS : Bool) (hH hL : Int) (o : ByteArray) (t sp : Int) (TA TH : List UInt8) (hfs : ∀ z ∈ [((fT ⟨#[115, 101, 115, 115, 105, 111, 110]⟩ s), (rB 1 s 1000000)), ((fT ⟨#[115, 101, 113]⟩ q), (rB 1 q 1000000)), ((fT ⟨#[110, 111, 119]⟩ n), (rB 0 n 1000000000)), ((aT TA), (pokB aS aH aL ab))], z.1.size ≤ 1048600) (HI : Hid (CmI s q n b t sp o)) (HTA : Hid (TA.length ≤ 200 ∧ ∀ w : World, Tabs w → Calls Tryd.prog 48 #[.agg #[.bool aS, .int .i64 aH.toInt, .int .i64 aL.toInt, .int .i64 ab]] w fun e w' => e = .returned (.string ⟨TA.toArray⟩) ∧ Below w.heap.size w w')) (HTH : Hid (TH.length ≤ 200 ∧ ∀ w : World, Tabs w → Calls Tryd.prog 51 #[.agg #[.bool hS, .int .i64 hH, .int .i64 hL]] w fun e w' => e = .returned (.string ⟨TH.toArray⟩) ∧ Below w.heap.size w w')) (y : World) (ht : Tabs y) :
    Calls Tryd.prog 10 #[.agg #[.int .i64 4, .int .i64 s, .int .i64 q, .int .i64 n, .bool aS, .int .i64 aH.toInt, .int .i64 aL.toInt, .int .i64 ab, .int .i64 b, .bool hS, .int .i64 hH, .int .i64 hL, .string o, .int .i64 t, .int .i64 sp]] y fun e w' => (((zCm (0) (0) (0) (0) (false) (0) (0) (0) (b) (hS) (hH) (hL) (o) (t) (sp) && [((fT ⟨#[115, 101, 115, 115, 105, 111, 110]⟩ s), (rB 1 s 1000000)), ((fT ⟨#[115, 101, 113]⟩ q), (rB 1 q 1000000)), ((fT ⟨#[110, 111, 119]⟩ n), (rB 0 n 1000000000)), ((aT TA), (pokB aS aH aL ab))].all (fun z => z.2)) = true ∧ e = .returned (.string (jn ⟨#[100, 114, 111, 112, 45, 112, 111, 111, 108]⟩ [((fT ⟨#[115, 101, 115, 115, 105, 111, 110]⟩ s), (rB 1 s 1000000)), ((fT ⟨#[115, 101, 113]⟩ q), (rB 1 q 1000000)), ((fT ⟨#[110, 111, 119]⟩ n), (rB 0 n 1000000000)), ((aT TA), (pokB aS aH aL ab))]))) ∨ ((zCm (0) (0) (0) (0) (false) (0) (0) (0) (b) (hS) (hH) (hL) (o) (t) (sp) && [((fT ⟨#[115, 101, 115, 115, 105, 111, 110]⟩ s), (rB 1 s 1000000)), ((fT ⟨#[115, 101, 113]⟩ q), (rB 1 q 1000000)), ((fT ⟨#[110, 111, 119]⟩ n), (rB 0 n 1000000000)), ((aT TA), (pokB aS aH aL ab))].all (fun z => z.2)) = false ∧ e = .returned (.string ⟨#[]⟩))) ∧ Below y.heap.size y w' := by
  have HT := hidP ht
  have HFO := hidP (fun w (h : Tabs w) => fo_4 s q n aS aH aL ab b hS hH hL o t sp TA TH HI HTA HTH w h)
  have HRO := hidP (fun w (h : Tabs w) => ro_4 s q n aS aH aL ab b hS hH hL o t sp TA TH HI HTA HTH w h)
  have hlen : [((fT ⟨#[115, 101, 115, 115, 105, 111, 110]⟩ s), (rB 1 s 1000000)), ((fT ⟨#[115, 101, 113]⟩ q), (rB 1 q 1000000)), ((fT ⟨#[110, 111, 119]⟩ n), (rB 0 n 1000000000)), ((aT TA), (pokB aS aH aL ab))].length = 4 := rfl
  generalize [((fT ⟨#[115, 101, 115, 115, 105, 111, 110]⟩ s), (rB 1 s 1000000)), ((fT ⟨#[115, 101, 113]⟩ q), (rB 1 q 1000000)), ((fT ⟨#[110, 111, 119]⟩ n), (rB 0 n 1000000000)), ((aT TA), (pokB aS aH aL ab))] = fl at *
  have HL := hidP hlen
  obtain ⟨R, hR⟩ : ∃ R : Bool, R = (zCm (0) (0) (0) (0) (false) (0) (0) (0) (b) (hS) (hH) (hL) (o) (t) (sp) && fl.all (fun z => z.2)) := ⟨_, rfl⟩
  rw [← hR]
  have HR0 := hidP hR
  have HSz := hidP (fun k => jn_size (W := ⟨#[100, 114, 111, 112, 45, 112, 111, 111, 108]⟩) (by decide) hfs (by omega) k)
  have HFz := hidP hfs
  clear hR ht hlen HI HTA HTH hfs
  have HU := hidP ((Below.refl y.heap.size y).alloc (Nat.le_refl _) (.cells #[.int .i64 4, .int .i64 s, .int .i64 q, .int .i64 n, .bool aS, .int .i64 aH.toInt, .int .i64 aL.toInt, .int .i64 ab, .int .i64 b, .bool hS, .int .i64 hH, .int .i64 hL, .string o, .int .i64 t, .int .i64 sp] 34))
  go_enter Tryd.func10, Tryd.ntmps10
  go_wp2_with fail
  refine (HRO.out _ (HT.out.below HU.out)).mono ?_
  rintro e w1 ⟨⟨h1, rfl⟩ | ⟨h1, rfl⟩, hb1⟩
  · have HB1 := hidP (HU.out.trans (hb1.mono HU.out.size))
    have z1 := HB1.out.size
    clear hb1 HRO
    have mw := fun w => Tryd.mw_4 s q n aS aH aL ab w
    go_wp2_with fail
    refine (wd_4 s q n aS aH aL ab _).mono ?_
    rintro e w3 ⟨rfl, hb3⟩
    have HB3 := hidP (HB1.out.trans (hb3.mono z1))
    have z3 := HB3.out.size
    clear mw hb3 HB1
    go_wp2_with fail
    refine (HFO.out _ (HT.out.below HB3.out)).mono ?_
    rintro e w2 ⟨a, c, rfl, ho, hb2⟩
    have HB2 := hidP (HB3.out.trans (hb2.mono z3))
    have z2 := HB2.out.size
    have HRow := hidP ho.row
    clear hb2 ho
    go_wp2_with fail
    go_loopw [5, 20] (fun t5 t20 x => ∃ k : Nat, k ≤ 4 ∧ t5 = .string (jn ⟨#[100, 114, 111, 112, 45, 112, 111, 111, 108]⟩ (fl.take k)) ∧ t20 = .int .i64 k ∧ Hid (Below w2.heap.size w2 x)) (fun _ t20 _ => 4 - (intOf t20).toNat)
    case atStart => exact ⟨0, by omega, rfl, rfl, hidP (Below.refl _ _)⟩
    case round =>
      obtain ⟨k, hk, rfl, rfl, HB⟩ := hrel
      have h3 := HB.out.size
      by_cases hlt : k < 4
      · obtain ⟨p, o', z, rfl, hp, hz, d0, d1⟩ := rowF HRow.out k (by rw [HL.out]; exact hlt)
        have e0 := (HB.out.cell hp).trans d0
        have e1 := (HB.out.cell hp).trans d1
        have hlt' : (k : Int) < 4 := by omega
        have HS := hidP (jn_snoc (W := ⟨#[100, 114, 111, 112, 45, 112, 111, 111, 108]⟩) hz)
        have s1 := HSz.out k
        have s2 := HFz.out z (List.mem_of_getElem? hz)
        clear d0 d1 hz
        obtain ⟨zt, zf⟩ := z
        have s3 : zt.size ≤ 1048600 := s2
        clear s2
        generalize jn ⟨#[100, 114, 111, 112, 45, 112, 111, 111, 108]⟩ (fl.take k) = J at *
        go_wp2_with fail
        go_roundw
        case rel => exact ⟨k + 1, by omega, by rw [HS.out], by go_num, hidP (HB.out.alloc h3 _)⟩
        case measure => simp [intOf]; omega
      · have hkn : k = 4 := by omega
        subst hkn
        have HE : Hid (jn ⟨#[100, 114, 111, 112, 45, 112, 111, 111, 108]⟩ (fl.take 4) = jn ⟨#[100, 114, 111, 112, 45, 112, 111, 111, 108]⟩ fl) := hidP (by rw [List.take_of_length_le (by rw [HL.out]; omega)])
        go_wp2_with fail
        go_ret
        exact ⟨Or.inl ⟨by rw [HR0.out]; exact h1, ret_ba HE.out⟩, HB2.out.trans (HB.out.mono z2)⟩
  · have HB1 := hidP (HU.out.trans (hb1.mono HU.out.size))
    clear hb1
    go_wp2_with fail
    go_ret
    exact ⟨Or.inr ⟨by rw [HR0.out]; exact h1, rfl⟩, HB1.out⟩

end Go.Proofs.YtoadckdokdcppaaDoor

namespace Go.Proofs.YtoadckdokdcppaaDoor
open Go.RowKit

theorem wd_5 (s : Int) (q : Int) (n : Int) (aS : Bool) (aH : BitVec 64) (aL : BitVec 64) (ab : Int) (o : ByteArray) (w : World) : Calls Tryd.prog 108 #[.agg #[.int .i64 s, .int .i64 q, .int .i64 n, .bool aS, .int .i64 aH.toInt, .int .i64 aL.toInt, .int .i64 ab, .string o]] w fun e w' => e = .returned (.string ⟨#[99, 97, 114, 118, 101]⟩) ∧ Below w.heap.size w w' := by
  go_enter Tryd.func108, Tryd.ntmps108
  go_wp2
  go_ret
  exact ⟨rfl, (Below.refl _ _).alloc (Nat.le_refl _) _⟩
theorem Tryd.mw_5 (s : Int) (q : Int) (n : Int) (aS : Bool) (aH : BitVec 64) (aL : BitVec 64) (ab : Int) (o : ByteArray) (w : World) : (Go.method 265 82 (.agg #[.int .i64 s, .int .i64 q, .int .i64 n, .bool aS, .int .i64 aH.toInt, .int .i64 aL.toInt, .int .i64 ab, .string o]) "loop.example/g00113/impl.word").run Tryd.prog w = .ok (108, .agg #[.int .i64 s, .int .i64 q, .int .i64 n, .bool aS, .int .i64 aH.toInt, .int .i64 aL.toInt, .int .i64 ab, .string o]) w := by kernel_rfl
set_option maxRecDepth 10000 in
set_option maxHeartbeats 2000000 in
theorem tx_5 (s q n : Int) (aS : Bool) (aH aL : BitVec 64) (ab b : Int) (hS : Bool) (hH hL : Int) (o : ByteArray) (t sp : Int) (TA TH : List UInt8) (hfs : ∀ z ∈ [((fT ⟨#[115, 101, 115, 115, 105, 111, 110]⟩ s), (rB 1 s 1000000)), ((fT ⟨#[115, 101, 113]⟩ q), (rB 1 q 1000000)), ((fT ⟨#[110, 111, 119]⟩ n), (rB 0 n 1000000000)), ((aT TA), (pokB aS aH aL ab)), ((oT o), (ownB o))], z.1.size ≤ 1048600) (HI : Hid (CmI s q n b t sp o)) (HTA : Hid (TA.length ≤ 200 ∧ ∀ w : World, Tabs w → Calls Tryd.prog 48 #[.agg #[.bool aS, .int .i64 aH.toInt, .int .i64 aL.toInt, .int .i64 ab]] w fun e w' => e = .returned (.string ⟨TA.toArray⟩) ∧ Below w.heap.size w w')) (HTH : Hid (TH.length ≤ 200 ∧ ∀ w : World, Tabs w → Calls Tryd.prog 51 #[.agg #[.bool hS, .int .i64 hH, .int .i64 hL]] w fun e w' => e = .returned (.string ⟨TH.toArray⟩) ∧ Below w.heap.size w w')) (y : World) (ht : Tabs y) :
    Calls Tryd.prog 10 #[.agg #[.int .i64 5, .int .i64 s, .int .i64 q, .int .i64 n, .bool aS, .int .i64 aH.toInt, .int .i64 aL.toInt, .int .i64 ab, .int .i64 b, .bool hS, .int .i64 hH, .int .i64 hL, .string o, .int .i64 t, .int .i64 sp]] y fun e w' => (((zCm (0) (0) (0) (0) (false) (0) (0) (0) (b) (hS) (hH) (hL) (⟨#[]⟩) (t) (sp) && [((fT ⟨#[115, 101, 115, 115, 105, 111, 110]⟩ s), (rB 1 s 1000000)), ((fT ⟨#[115, 101, 113]⟩ q), (rB 1 q 1000000)), ((fT ⟨#[110, 111, 119]⟩ n), (rB 0 n 1000000000)), ((aT TA), (pokB aS aH aL ab)), ((oT o), (ownB o))].all (fun z => z.2)) = true ∧ e = .returned (.string (jn ⟨#[99, 97, 114, 118, 101]⟩ [((fT ⟨#[115, 101, 115, 115, 105, 111, 110]⟩ s), (rB 1 s 1000000)), ((fT ⟨#[115, 101, 113]⟩ q), (rB 1 q 1000000)), ((fT ⟨#[110, 111, 119]⟩ n), (rB 0 n 1000000000)), ((aT TA), (pokB aS aH aL ab)), ((oT o), (ownB o))]))) ∨ ((zCm (0) (0) (0) (0) (false) (0) (0) (0) (b) (hS) (hH) (hL) (⟨#[]⟩) (t) (sp) && [((fT ⟨#[115, 101, 115, 115, 105, 111, 110]⟩ s), (rB 1 s 1000000)), ((fT ⟨#[115, 101, 113]⟩ q), (rB 1 q 1000000)), ((fT ⟨#[110, 111, 119]⟩ n), (rB 0 n 1000000000)), ((aT TA), (pokB aS aH aL ab)), ((oT o), (ownB o))].all (fun z => z.2)) = false ∧ e = .returned (.string ⟨#[]⟩))) ∧ Below y.heap.size y w' := by
  have HT := hidP ht
  have HFO := hidP (fun w (h : Tabs w) => fo_5 s q n aS aH aL ab b hS hH hL o t sp TA TH HI HTA HTH w h)
  have HRO := hidP (fun w (h : Tabs w) => ro_5 s q n aS aH aL ab b hS hH hL o t sp TA TH HI HTA HTH w h)
  have hlen : [((fT ⟨#[115, 101, 115, 115, 105, 111, 110]⟩ s), (rB 1 s 1000000)), ((fT ⟨#[115, 101, 113]⟩ q), (rB 1 q 1000000)), ((fT ⟨#[110, 111, 119]⟩ n), (rB 0 n 1000000000)), ((aT TA), (pokB aS aH aL ab)), ((oT o), (ownB o))].length = 5 := rfl
  generalize [((fT ⟨#[115, 101, 115, 115, 105, 111, 110]⟩ s), (rB 1 s 1000000)), ((fT ⟨#[115, 101, 113]⟩ q), (rB 1 q 1000000)), ((fT ⟨#[110, 111, 119]⟩ n), (rB 0 n 1000000000)), ((aT TA), (pokB aS aH aL ab)), ((oT o), (ownB o))] = fl at *
  have HL := hidP hlen
  obtain ⟨R, hR⟩ : ∃ R : Bool, R = (zCm (0) (0) (0) (0) (false) (0) (0) (0) (b) (hS) (hH) (hL) (⟨#[]⟩) (t) (sp) && fl.all (fun z => z.2)) := ⟨_, rfl⟩
  rw [← hR]
  have HR0 := hidP hR
  have HSz := hidP (fun k => jn_size (W := ⟨#[99, 97, 114, 118, 101]⟩) (by decide) hfs (by omega) k)
  have HFz := hidP hfs
  clear hR ht hlen HI HTA HTH hfs
  have HU := hidP ((Below.refl y.heap.size y).alloc (Nat.le_refl _) (.cells #[.int .i64 5, .int .i64 s, .int .i64 q, .int .i64 n, .bool aS, .int .i64 aH.toInt, .int .i64 aL.toInt, .int .i64 ab, .int .i64 b, .bool hS, .int .i64 hH, .int .i64 hL, .string o, .int .i64 t, .int .i64 sp] 34))
  go_enter Tryd.func10, Tryd.ntmps10
  go_wp2_with fail
  refine (HRO.out _ (HT.out.below HU.out)).mono ?_
  rintro e w1 ⟨⟨h1, rfl⟩ | ⟨h1, rfl⟩, hb1⟩
  · have HB1 := hidP (HU.out.trans (hb1.mono HU.out.size))
    have z1 := HB1.out.size
    clear hb1 HRO
    have mw := fun w => Tryd.mw_5 s q n aS aH aL ab o w
    go_wp2_with fail
    refine (wd_5 s q n aS aH aL ab o _).mono ?_
    rintro e w3 ⟨rfl, hb3⟩
    have HB3 := hidP (HB1.out.trans (hb3.mono z1))
    have z3 := HB3.out.size
    clear mw hb3 HB1
    go_wp2_with fail
    refine (HFO.out _ (HT.out.below HB3.out)).mono ?_
    rintro e w2 ⟨a, c, rfl, ho, hb2⟩
    have HB2 := hidP (HB3.out.trans (hb2.mono z3))
    have z2 := HB2.out.size
    have HRow := hidP ho.row
    clear hb2 ho
    go_wp2_with fail
    go_loopw [5, 20] (fun t5 t20 x => ∃ k : Nat, k ≤ 5 ∧ t5 = .string (jn ⟨#[99, 97, 114, 118, 101]⟩ (fl.take k)) ∧ t20 = .int .i64 k ∧ Hid (Below w2.heap.size w2 x)) (fun _ t20 _ => 5 - (intOf t20).toNat)
    case atStart => exact ⟨0, by omega, rfl, rfl, hidP (Below.refl _ _)⟩
    case round =>
      obtain ⟨k, hk, rfl, rfl, HB⟩ := hrel
      have h3 := HB.out.size
      by_cases hlt : k < 5
      · obtain ⟨p, o', z, rfl, hp, hz, d0, d1⟩ := rowF HRow.out k (by rw [HL.out]; exact hlt)
        have e0 := (HB.out.cell hp).trans d0
        have e1 := (HB.out.cell hp).trans d1
        have hlt' : (k : Int) < 5 := by omega
        have HS := hidP (jn_snoc (W := ⟨#[99, 97, 114, 118, 101]⟩) hz)
        have s1 := HSz.out k
        have s2 := HFz.out z (List.mem_of_getElem? hz)
        clear d0 d1 hz
        obtain ⟨zt, zf⟩ := z
        have s3 : zt.size ≤ 1048600 := s2
        clear s2
        generalize jn ⟨#[99, 97, 114, 118, 101]⟩ (fl.take k) = J at *
        go_wp2_with fail
        go_roundw
        case rel => exact ⟨k + 1, by omega, by rw [HS.out], by go_num, hidP (HB.out.alloc h3 _)⟩
        case measure => simp [intOf]; omega
      · have hkn : k = 5 := by omega
        subst hkn
        have HE : Hid (jn ⟨#[99, 97, 114, 118, 101]⟩ (fl.take 5) = jn ⟨#[99, 97, 114, 118, 101]⟩ fl) := hidP (by rw [List.take_of_length_le (by rw [HL.out]; omega)])
        go_wp2_with fail
        go_ret
        exact ⟨Or.inl ⟨by rw [HR0.out]; exact h1, ret_ba HE.out⟩, HB2.out.trans (HB.out.mono z2)⟩
  · have HB1 := hidP (HU.out.trans (hb1.mono HU.out.size))
    clear hb1
    go_wp2_with fail
    go_ret
    exact ⟨Or.inr ⟨by rw [HR0.out]; exact h1, rfl⟩, HB1.out⟩

theorem wd_6 (s : Int) (q : Int) (n : Int) (aS : Bool) (aH : BitVec 64) (aL : BitVec 64) (ab : Int) (o : ByteArray) (w : World) : Calls Tryd.prog 109 #[.agg #[.int .i64 s, .int .i64 q, .int .i64 n, .bool aS, .int .i64 aH.toInt, .int .i64 aL.toInt, .int .i64 ab, .string o]] w fun e w' => e = .returned (.string ⟨#[102, 114, 101, 101]⟩) ∧ Below w.heap.size w w' := by
  go_enter Tryd.func109, Tryd.ntmps109
  go_wp2
  go_ret
  exact ⟨rfl, (Below.refl _ _).alloc (Nat.le_refl _) _⟩
theorem Tryd.mw_6 (s : Int) (q : Int) (n : Int) (aS : Bool) (aH : BitVec 64) (aL : BitVec 64) (ab : Int) (o : ByteArray) (w : World) : (Go.method 265 84 (.agg #[.int .i64 s, .int .i64 q, .int .i64 n, .bool aS, .int .i64 aH.toInt, .int .i64 aL.toInt, .int .i64 ab, .string o]) "loop.example/g00113/impl.word").run Tryd.prog w = .ok (109, .agg #[.int .i64 s, .int .i64 q, .int .i64 n, .bool aS, .int .i64 aH.toInt, .int .i64 aL.toInt, .int .i64 ab, .string o]) w := by kernel_rfl
set_option maxRecDepth 10000 in
set_option maxHeartbeats 2000000 in
theorem tx_6 (s q n : Int) (aS : Bool) (aH aL : BitVec 64) (ab b : Int) (hS : Bool) (hH hL : Int) (o : ByteArray) (t sp : Int) (TA TH : List UInt8) (hfs : ∀ z ∈ [((fT ⟨#[115, 101, 115, 115, 105, 111, 110]⟩ s), (rB 1 s 1000000)), ((fT ⟨#[115, 101, 113]⟩ q), (rB 1 q 1000000)), ((fT ⟨#[110, 111, 119]⟩ n), (rB 0 n 1000000000)), ((aT TA), (pokB aS aH aL ab)), ((oT o), (ownB o))], z.1.size ≤ 1048600) (HI : Hid (CmI s q n b t sp o)) (HTA : Hid (TA.length ≤ 200 ∧ ∀ w : World, Tabs w → Calls Tryd.prog 48 #[.agg #[.bool aS, .int .i64 aH.toInt, .int .i64 aL.toInt, .int .i64 ab]] w fun e w' => e = .returned (.string ⟨TA.toArray⟩) ∧ Below w.heap.size w w')) (HTH : Hid (TH.length ≤ 200 ∧ ∀ w : World, Tabs w → Calls Tryd.prog 51 #[.agg #[.bool hS, .int .i64 hH, .int .i64 hL]] w fun e w' => e = .returned (.string ⟨TH.toArray⟩) ∧ Below w.heap.size w w')) (y : World) (ht : Tabs y) :
    Calls Tryd.prog 10 #[.agg #[.int .i64 6, .int .i64 s, .int .i64 q, .int .i64 n, .bool aS, .int .i64 aH.toInt, .int .i64 aL.toInt, .int .i64 ab, .int .i64 b, .bool hS, .int .i64 hH, .int .i64 hL, .string o, .int .i64 t, .int .i64 sp]] y fun e w' => (((zCm (0) (0) (0) (0) (false) (0) (0) (0) (b) (hS) (hH) (hL) (⟨#[]⟩) (t) (sp) && [((fT ⟨#[115, 101, 115, 115, 105, 111, 110]⟩ s), (rB 1 s 1000000)), ((fT ⟨#[115, 101, 113]⟩ q), (rB 1 q 1000000)), ((fT ⟨#[110, 111, 119]⟩ n), (rB 0 n 1000000000)), ((aT TA), (pokB aS aH aL ab)), ((oT o), (ownB o))].all (fun z => z.2)) = true ∧ e = .returned (.string (jn ⟨#[102, 114, 101, 101]⟩ [((fT ⟨#[115, 101, 115, 115, 105, 111, 110]⟩ s), (rB 1 s 1000000)), ((fT ⟨#[115, 101, 113]⟩ q), (rB 1 q 1000000)), ((fT ⟨#[110, 111, 119]⟩ n), (rB 0 n 1000000000)), ((aT TA), (pokB aS aH aL ab)), ((oT o), (ownB o))]))) ∨ ((zCm (0) (0) (0) (0) (false) (0) (0) (0) (b) (hS) (hH) (hL) (⟨#[]⟩) (t) (sp) && [((fT ⟨#[115, 101, 115, 115, 105, 111, 110]⟩ s), (rB 1 s 1000000)), ((fT ⟨#[115, 101, 113]⟩ q), (rB 1 q 1000000)), ((fT ⟨#[110, 111, 119]⟩ n), (rB 0 n 1000000000)), ((aT TA), (pokB aS aH aL ab)), ((oT o), (ownB o))].all (fun z => z.2)) = false ∧ e = .returned (.string ⟨#[]⟩))) ∧ Below y.heap.size y w' := by
  have HT := hidP ht
  have HFO := hidP (fun w (h : Tabs w) => fo_6 s q n aS aH aL ab b hS hH hL o t sp TA TH HI HTA HTH w h)
  have HRO := hidP (fun w (h : Tabs w) => ro_6 s q n aS aH aL ab b hS hH hL o t sp TA TH HI HTA HTH w h)
  have hlen : [((fT ⟨#[115, 101, 115, 115, 105, 111, 110]⟩ s), (rB 1 s 1000000)), ((fT ⟨#[115, 101, 113]⟩ q), (rB 1 q 1000000)), ((fT ⟨#[110, 111, 119]⟩ n), (rB 0 n 1000000000)), ((aT TA), (pokB aS aH aL ab)), ((oT o), (ownB o))].length = 5 := rfl
  generalize [((fT ⟨#[115, 101, 115, 115, 105, 111, 110]⟩ s), (rB 1 s 1000000)), ((fT ⟨#[115, 101, 113]⟩ q), (rB 1 q 1000000)), ((fT ⟨#[110, 111, 119]⟩ n), (rB 0 n 1000000000)), ((aT TA), (pokB aS aH aL ab)), ((oT o), (ownB o))] = fl at *
  have HL := hidP hlen
  obtain ⟨R, hR⟩ : ∃ R : Bool, R = (zCm (0) (0) (0) (0) (false) (0) (0) (0) (b) (hS) (hH) (hL) (⟨#[]⟩) (t) (sp) && fl.all (fun z => z.2)) := ⟨_, rfl⟩
  rw [← hR]
  have HR0 := hidP hR
  have HSz := hidP (fun k => jn_size (W := ⟨#[102, 114, 101, 101]⟩) (by decide) hfs (by omega) k)
  have HFz := hidP hfs
  clear hR ht hlen HI HTA HTH hfs
  have HU := hidP ((Below.refl y.heap.size y).alloc (Nat.le_refl _) (.cells #[.int .i64 6, .int .i64 s, .int .i64 q, .int .i64 n, .bool aS, .int .i64 aH.toInt, .int .i64 aL.toInt, .int .i64 ab, .int .i64 b, .bool hS, .int .i64 hH, .int .i64 hL, .string o, .int .i64 t, .int .i64 sp] 34))
  go_enter Tryd.func10, Tryd.ntmps10
  go_wp2_with fail
  refine (HRO.out _ (HT.out.below HU.out)).mono ?_
  rintro e w1 ⟨⟨h1, rfl⟩ | ⟨h1, rfl⟩, hb1⟩
  · have HB1 := hidP (HU.out.trans (hb1.mono HU.out.size))
    have z1 := HB1.out.size
    clear hb1 HRO
    have mw := fun w => Tryd.mw_6 s q n aS aH aL ab o w
    go_wp2_with fail
    refine (wd_6 s q n aS aH aL ab o _).mono ?_
    rintro e w3 ⟨rfl, hb3⟩
    have HB3 := hidP (HB1.out.trans (hb3.mono z1))
    have z3 := HB3.out.size
    clear mw hb3 HB1
    go_wp2_with fail
    refine (HFO.out _ (HT.out.below HB3.out)).mono ?_
    rintro e w2 ⟨a, c, rfl, ho, hb2⟩
    have HB2 := hidP (HB3.out.trans (hb2.mono z3))
    have z2 := HB2.out.size
    have HRow := hidP ho.row
    clear hb2 ho
    go_wp2_with fail
    go_loopw [5, 20] (fun t5 t20 x => ∃ k : Nat, k ≤ 5 ∧ t5 = .string (jn ⟨#[102, 114, 101, 101]⟩ (fl.take k)) ∧ t20 = .int .i64 k ∧ Hid (Below w2.heap.size w2 x)) (fun _ t20 _ => 5 - (intOf t20).toNat)
    case atStart => exact ⟨0, by omega, rfl, rfl, hidP (Below.refl _ _)⟩
    case round =>
      obtain ⟨k, hk, rfl, rfl, HB⟩ := hrel
      have h3 := HB.out.size
      by_cases hlt : k < 5
      · obtain ⟨p, o', z, rfl, hp, hz, d0, d1⟩ := rowF HRow.out k (by rw [HL.out]; exact hlt)
        have e0 := (HB.out.cell hp).trans d0
        have e1 := (HB.out.cell hp).trans d1
        have hlt' : (k : Int) < 5 := by omega
        have HS := hidP (jn_snoc (W := ⟨#[102, 114, 101, 101]⟩) hz)
        have s1 := HSz.out k
        have s2 := HFz.out z (List.mem_of_getElem? hz)
        clear d0 d1 hz
        obtain ⟨zt, zf⟩ := z
        have s3 : zt.size ≤ 1048600 := s2
        clear s2
        generalize jn ⟨#[102, 114, 101, 101]⟩ (fl.take k) = J at *
        go_wp2_with fail
        go_roundw
        case rel => exact ⟨k + 1, by omega, by rw [HS.out], by go_num, hidP (HB.out.alloc h3 _)⟩
        case measure => simp [intOf]; omega
      · have hkn : k = 5 := by omega
        subst hkn
        have HE : Hid (jn ⟨#[102, 114, 101, 101]⟩ (fl.take 5) = jn ⟨#[102, 114, 101, 101]⟩ fl) := hidP (by rw [List.take_of_length_le (by rw [HL.out]; omega)])
        go_wp2_with fail
        go_ret
        exact ⟨Or.inl ⟨by rw [HR0.out]; exact h1, ret_ba HE.out⟩, HB2.out.trans (HB.out.mono z2)⟩
  · have HB1 := hidP (HU.out.trans (hb1.mono HU.out.size))
    clear hb1
    go_wp2_with fail
    go_ret
    exact ⟨Or.inr ⟨by rw [HR0.out]; exact h1, rfl⟩, HB1.out⟩

end Go.Proofs.YtoadckdokdcppaaDoor

namespace Go.Proofs.YtoadckdokdcppaaDoor
open Go.RowKit

theorem wd_7 (s : Int) (q : Int) (n : Int) (aS : Bool) (aH : BitVec 64) (aL : BitVec 64) (ab : Int) (o : ByteArray) (sp : Int) (w : World) : Calls Tryd.prog 110 #[.agg #[.int .i64 s, .int .i64 q, .int .i64 n, .bool aS, .int .i64 aH.toInt, .int .i64 aL.toInt, .int .i64 ab, .string o, .int .i64 sp]] w fun e w' => e = .returned (.string ⟨#[103, 114, 97, 110, 116]⟩) ∧ Below w.heap.size w w' := by
  go_enter Tryd.func110, Tryd.ntmps110
  go_wp2
  go_ret
  exact ⟨rfl, (Below.refl _ _).alloc (Nat.le_refl _) _⟩
theorem Tryd.mw_7 (s : Int) (q : Int) (n : Int) (aS : Bool) (aH : BitVec 64) (aL : BitVec 64) (ab : Int) (o : ByteArray) (sp : Int) (w : World) : (Go.method 265 86 (.agg #[.int .i64 s, .int .i64 q, .int .i64 n, .bool aS, .int .i64 aH.toInt, .int .i64 aL.toInt, .int .i64 ab, .string o, .int .i64 sp]) "loop.example/g00113/impl.word").run Tryd.prog w = .ok (110, .agg #[.int .i64 s, .int .i64 q, .int .i64 n, .bool aS, .int .i64 aH.toInt, .int .i64 aL.toInt, .int .i64 ab, .string o, .int .i64 sp]) w := by kernel_rfl
set_option maxRecDepth 10000 in
set_option maxHeartbeats 2000000 in
theorem tx_7 (s q n : Int) (aS : Bool) (aH aL : BitVec 64) (ab b : Int) (hS : Bool) (hH hL : Int) (o : ByteArray) (t sp : Int) (TA TH : List UInt8) (hfs : ∀ z ∈ [((fT ⟨#[115, 101, 115, 115, 105, 111, 110]⟩ s), (rB 1 s 1000000)), ((fT ⟨#[115, 101, 113]⟩ q), (rB 1 q 1000000)), ((fT ⟨#[110, 111, 119]⟩ n), (rB 0 n 1000000000)), ((aT TA), (pokB aS aH aL ab)), ((oT o), (ownB o)), ((fT ⟨#[115, 112, 97, 110]⟩ sp), (rB 1 sp 1000))], z.1.size ≤ 1048600) (HI : Hid (CmI s q n b t sp o)) (HTA : Hid (TA.length ≤ 200 ∧ ∀ w : World, Tabs w → Calls Tryd.prog 48 #[.agg #[.bool aS, .int .i64 aH.toInt, .int .i64 aL.toInt, .int .i64 ab]] w fun e w' => e = .returned (.string ⟨TA.toArray⟩) ∧ Below w.heap.size w w')) (HTH : Hid (TH.length ≤ 200 ∧ ∀ w : World, Tabs w → Calls Tryd.prog 51 #[.agg #[.bool hS, .int .i64 hH, .int .i64 hL]] w fun e w' => e = .returned (.string ⟨TH.toArray⟩) ∧ Below w.heap.size w w')) (y : World) (ht : Tabs y) :
    Calls Tryd.prog 10 #[.agg #[.int .i64 7, .int .i64 s, .int .i64 q, .int .i64 n, .bool aS, .int .i64 aH.toInt, .int .i64 aL.toInt, .int .i64 ab, .int .i64 b, .bool hS, .int .i64 hH, .int .i64 hL, .string o, .int .i64 t, .int .i64 sp]] y fun e w' => (((zCm (0) (0) (0) (0) (false) (0) (0) (0) (b) (hS) (hH) (hL) (⟨#[]⟩) (t) (0) && [((fT ⟨#[115, 101, 115, 115, 105, 111, 110]⟩ s), (rB 1 s 1000000)), ((fT ⟨#[115, 101, 113]⟩ q), (rB 1 q 1000000)), ((fT ⟨#[110, 111, 119]⟩ n), (rB 0 n 1000000000)), ((aT TA), (pokB aS aH aL ab)), ((oT o), (ownB o)), ((fT ⟨#[115, 112, 97, 110]⟩ sp), (rB 1 sp 1000))].all (fun z => z.2)) = true ∧ e = .returned (.string (jn ⟨#[103, 114, 97, 110, 116]⟩ [((fT ⟨#[115, 101, 115, 115, 105, 111, 110]⟩ s), (rB 1 s 1000000)), ((fT ⟨#[115, 101, 113]⟩ q), (rB 1 q 1000000)), ((fT ⟨#[110, 111, 119]⟩ n), (rB 0 n 1000000000)), ((aT TA), (pokB aS aH aL ab)), ((oT o), (ownB o)), ((fT ⟨#[115, 112, 97, 110]⟩ sp), (rB 1 sp 1000))]))) ∨ ((zCm (0) (0) (0) (0) (false) (0) (0) (0) (b) (hS) (hH) (hL) (⟨#[]⟩) (t) (0) && [((fT ⟨#[115, 101, 115, 115, 105, 111, 110]⟩ s), (rB 1 s 1000000)), ((fT ⟨#[115, 101, 113]⟩ q), (rB 1 q 1000000)), ((fT ⟨#[110, 111, 119]⟩ n), (rB 0 n 1000000000)), ((aT TA), (pokB aS aH aL ab)), ((oT o), (ownB o)), ((fT ⟨#[115, 112, 97, 110]⟩ sp), (rB 1 sp 1000))].all (fun z => z.2)) = false ∧ e = .returned (.string ⟨#[]⟩))) ∧ Below y.heap.size y w' := by
  have HT := hidP ht
  have HFO := hidP (fun w (h : Tabs w) => fo_7 s q n aS aH aL ab b hS hH hL o t sp TA TH HI HTA HTH w h)
  have HRO := hidP (fun w (h : Tabs w) => ro_7 s q n aS aH aL ab b hS hH hL o t sp TA TH HI HTA HTH w h)
  have hlen : [((fT ⟨#[115, 101, 115, 115, 105, 111, 110]⟩ s), (rB 1 s 1000000)), ((fT ⟨#[115, 101, 113]⟩ q), (rB 1 q 1000000)), ((fT ⟨#[110, 111, 119]⟩ n), (rB 0 n 1000000000)), ((aT TA), (pokB aS aH aL ab)), ((oT o), (ownB o)), ((fT ⟨#[115, 112, 97, 110]⟩ sp), (rB 1 sp 1000))].length = 6 := rfl
  generalize [((fT ⟨#[115, 101, 115, 115, 105, 111, 110]⟩ s), (rB 1 s 1000000)), ((fT ⟨#[115, 101, 113]⟩ q), (rB 1 q 1000000)), ((fT ⟨#[110, 111, 119]⟩ n), (rB 0 n 1000000000)), ((aT TA), (pokB aS aH aL ab)), ((oT o), (ownB o)), ((fT ⟨#[115, 112, 97, 110]⟩ sp), (rB 1 sp 1000))] = fl at *
  have HL := hidP hlen
  obtain ⟨R, hR⟩ : ∃ R : Bool, R = (zCm (0) (0) (0) (0) (false) (0) (0) (0) (b) (hS) (hH) (hL) (⟨#[]⟩) (t) (0) && fl.all (fun z => z.2)) := ⟨_, rfl⟩
  rw [← hR]
  have HR0 := hidP hR
  have HSz := hidP (fun k => jn_size (W := ⟨#[103, 114, 97, 110, 116]⟩) (by decide) hfs (by omega) k)
  have HFz := hidP hfs
  clear hR ht hlen HI HTA HTH hfs
  have HU := hidP ((Below.refl y.heap.size y).alloc (Nat.le_refl _) (.cells #[.int .i64 7, .int .i64 s, .int .i64 q, .int .i64 n, .bool aS, .int .i64 aH.toInt, .int .i64 aL.toInt, .int .i64 ab, .int .i64 b, .bool hS, .int .i64 hH, .int .i64 hL, .string o, .int .i64 t, .int .i64 sp] 34))
  go_enter Tryd.func10, Tryd.ntmps10
  go_wp2_with fail
  refine (HRO.out _ (HT.out.below HU.out)).mono ?_
  rintro e w1 ⟨⟨h1, rfl⟩ | ⟨h1, rfl⟩, hb1⟩
  · have HB1 := hidP (HU.out.trans (hb1.mono HU.out.size))
    have z1 := HB1.out.size
    clear hb1 HRO
    have mw := fun w => Tryd.mw_7 s q n aS aH aL ab o sp w
    go_wp2_with fail
    refine (wd_7 s q n aS aH aL ab o sp _).mono ?_
    rintro e w3 ⟨rfl, hb3⟩
    have HB3 := hidP (HB1.out.trans (hb3.mono z1))
    have z3 := HB3.out.size
    clear mw hb3 HB1
    go_wp2_with fail
    refine (HFO.out _ (HT.out.below HB3.out)).mono ?_
    rintro e w2 ⟨a, c, rfl, ho, hb2⟩
    have HB2 := hidP (HB3.out.trans (hb2.mono z3))
    have z2 := HB2.out.size
    have HRow := hidP ho.row
    clear hb2 ho
    go_wp2_with fail
    go_loopw [5, 20] (fun t5 t20 x => ∃ k : Nat, k ≤ 6 ∧ t5 = .string (jn ⟨#[103, 114, 97, 110, 116]⟩ (fl.take k)) ∧ t20 = .int .i64 k ∧ Hid (Below w2.heap.size w2 x)) (fun _ t20 _ => 6 - (intOf t20).toNat)
    case atStart => exact ⟨0, by omega, rfl, rfl, hidP (Below.refl _ _)⟩
    case round =>
      obtain ⟨k, hk, rfl, rfl, HB⟩ := hrel
      have h3 := HB.out.size
      by_cases hlt : k < 6
      · obtain ⟨p, o', z, rfl, hp, hz, d0, d1⟩ := rowF HRow.out k (by rw [HL.out]; exact hlt)
        have e0 := (HB.out.cell hp).trans d0
        have e1 := (HB.out.cell hp).trans d1
        have hlt' : (k : Int) < 6 := by omega
        have HS := hidP (jn_snoc (W := ⟨#[103, 114, 97, 110, 116]⟩) hz)
        have s1 := HSz.out k
        have s2 := HFz.out z (List.mem_of_getElem? hz)
        clear d0 d1 hz
        obtain ⟨zt, zf⟩ := z
        have s3 : zt.size ≤ 1048600 := s2
        clear s2
        generalize jn ⟨#[103, 114, 97, 110, 116]⟩ (fl.take k) = J at *
        go_wp2_with fail
        go_roundw
        case rel => exact ⟨k + 1, by omega, by rw [HS.out], by go_num, hidP (HB.out.alloc h3 _)⟩
        case measure => simp [intOf]; omega
      · have hkn : k = 6 := by omega
        subst hkn
        have HE : Hid (jn ⟨#[103, 114, 97, 110, 116]⟩ (fl.take 6) = jn ⟨#[103, 114, 97, 110, 116]⟩ fl) := hidP (by rw [List.take_of_length_le (by rw [HL.out]; omega)])
        go_wp2_with fail
        go_ret
        exact ⟨Or.inl ⟨by rw [HR0.out]; exact h1, ret_ba HE.out⟩, HB2.out.trans (HB.out.mono z2)⟩
  · have HB1 := hidP (HU.out.trans (hb1.mono HU.out.size))
    clear hb1
    go_wp2_with fail
    go_ret
    exact ⟨Or.inr ⟨by rw [HR0.out]; exact h1, rfl⟩, HB1.out⟩

theorem wd_8 (s : Int) (q : Int) (n : Int) (hS : Bool) (hH : Int) (hL : Int) (o : ByteArray) (sp : Int) (w : World) : Calls Tryd.prog 111 #[.agg #[.int .i64 s, .int .i64 q, .int .i64 n, .bool hS, .int .i64 hH, .int .i64 hL, .string o, .int .i64 sp]] w fun e w' => e = .returned (.string ⟨#[116, 97, 107, 101]⟩) ∧ Below w.heap.size w w' := by
  go_enter Tryd.func111, Tryd.ntmps111
  go_wp2
  go_ret
  exact ⟨rfl, (Below.refl _ _).alloc (Nat.le_refl _) _⟩
theorem Tryd.mw_8 (s : Int) (q : Int) (n : Int) (hS : Bool) (hH : Int) (hL : Int) (o : ByteArray) (sp : Int) (w : World) : (Go.method 265 88 (.agg #[.int .i64 s, .int .i64 q, .int .i64 n, .bool hS, .int .i64 hH, .int .i64 hL, .string o, .int .i64 sp]) "loop.example/g00113/impl.word").run Tryd.prog w = .ok (111, .agg #[.int .i64 s, .int .i64 q, .int .i64 n, .bool hS, .int .i64 hH, .int .i64 hL, .string o, .int .i64 sp]) w := by kernel_rfl
set_option maxRecDepth 10000 in
set_option maxHeartbeats 2000000 in
theorem tx_8 (s q n : Int) (aS : Bool) (aH aL : BitVec 64) (ab b : Int) (hS : Bool) (hH hL : Int) (o : ByteArray) (t sp : Int) (TA TH : List UInt8) (hfs : ∀ z ∈ [((fT ⟨#[115, 101, 115, 115, 105, 111, 110]⟩ s), (rB 1 s 1000000)), ((fT ⟨#[115, 101, 113]⟩ q), (rB 1 q 1000000)), ((fT ⟨#[110, 111, 119]⟩ n), (rB 0 n 1000000000)), ((hT TH), (okB hS hH hL)), ((oT o), (ownB o)), ((fT ⟨#[115, 112, 97, 110]⟩ sp), (rB 1 sp 1000))], z.1.size ≤ 1048600) (HI : Hid (CmI s q n b t sp o)) (HTA : Hid (TA.length ≤ 200 ∧ ∀ w : World, Tabs w → Calls Tryd.prog 48 #[.agg #[.bool aS, .int .i64 aH.toInt, .int .i64 aL.toInt, .int .i64 ab]] w fun e w' => e = .returned (.string ⟨TA.toArray⟩) ∧ Below w.heap.size w w')) (HTH : Hid (TH.length ≤ 200 ∧ ∀ w : World, Tabs w → Calls Tryd.prog 51 #[.agg #[.bool hS, .int .i64 hH, .int .i64 hL]] w fun e w' => e = .returned (.string ⟨TH.toArray⟩) ∧ Below w.heap.size w w')) (y : World) (ht : Tabs y) :
    Calls Tryd.prog 10 #[.agg #[.int .i64 8, .int .i64 s, .int .i64 q, .int .i64 n, .bool aS, .int .i64 aH.toInt, .int .i64 aL.toInt, .int .i64 ab, .int .i64 b, .bool hS, .int .i64 hH, .int .i64 hL, .string o, .int .i64 t, .int .i64 sp]] y fun e w' => (((zCm (0) (0) (0) (0) (aS) (aH.toInt) (aL.toInt) (ab) (b) (false) (0) (0) (⟨#[]⟩) (t) (0) && [((fT ⟨#[115, 101, 115, 115, 105, 111, 110]⟩ s), (rB 1 s 1000000)), ((fT ⟨#[115, 101, 113]⟩ q), (rB 1 q 1000000)), ((fT ⟨#[110, 111, 119]⟩ n), (rB 0 n 1000000000)), ((hT TH), (okB hS hH hL)), ((oT o), (ownB o)), ((fT ⟨#[115, 112, 97, 110]⟩ sp), (rB 1 sp 1000))].all (fun z => z.2)) = true ∧ e = .returned (.string (jn ⟨#[116, 97, 107, 101]⟩ [((fT ⟨#[115, 101, 115, 115, 105, 111, 110]⟩ s), (rB 1 s 1000000)), ((fT ⟨#[115, 101, 113]⟩ q), (rB 1 q 1000000)), ((fT ⟨#[110, 111, 119]⟩ n), (rB 0 n 1000000000)), ((hT TH), (okB hS hH hL)), ((oT o), (ownB o)), ((fT ⟨#[115, 112, 97, 110]⟩ sp), (rB 1 sp 1000))]))) ∨ ((zCm (0) (0) (0) (0) (aS) (aH.toInt) (aL.toInt) (ab) (b) (false) (0) (0) (⟨#[]⟩) (t) (0) && [((fT ⟨#[115, 101, 115, 115, 105, 111, 110]⟩ s), (rB 1 s 1000000)), ((fT ⟨#[115, 101, 113]⟩ q), (rB 1 q 1000000)), ((fT ⟨#[110, 111, 119]⟩ n), (rB 0 n 1000000000)), ((hT TH), (okB hS hH hL)), ((oT o), (ownB o)), ((fT ⟨#[115, 112, 97, 110]⟩ sp), (rB 1 sp 1000))].all (fun z => z.2)) = false ∧ e = .returned (.string ⟨#[]⟩))) ∧ Below y.heap.size y w' := by
  have HT := hidP ht
  have HFO := hidP (fun w (h : Tabs w) => fo_8 s q n aS aH aL ab b hS hH hL o t sp TA TH HI HTA HTH w h)
  have HRO := hidP (fun w (h : Tabs w) => ro_8 s q n aS aH aL ab b hS hH hL o t sp TA TH HI HTA HTH w h)
  have hlen : [((fT ⟨#[115, 101, 115, 115, 105, 111, 110]⟩ s), (rB 1 s 1000000)), ((fT ⟨#[115, 101, 113]⟩ q), (rB 1 q 1000000)), ((fT ⟨#[110, 111, 119]⟩ n), (rB 0 n 1000000000)), ((hT TH), (okB hS hH hL)), ((oT o), (ownB o)), ((fT ⟨#[115, 112, 97, 110]⟩ sp), (rB 1 sp 1000))].length = 6 := rfl
  generalize [((fT ⟨#[115, 101, 115, 115, 105, 111, 110]⟩ s), (rB 1 s 1000000)), ((fT ⟨#[115, 101, 113]⟩ q), (rB 1 q 1000000)), ((fT ⟨#[110, 111, 119]⟩ n), (rB 0 n 1000000000)), ((hT TH), (okB hS hH hL)), ((oT o), (ownB o)), ((fT ⟨#[115, 112, 97, 110]⟩ sp), (rB 1 sp 1000))] = fl at *
  have HL := hidP hlen
  obtain ⟨R, hR⟩ : ∃ R : Bool, R = (zCm (0) (0) (0) (0) (aS) (aH.toInt) (aL.toInt) (ab) (b) (false) (0) (0) (⟨#[]⟩) (t) (0) && fl.all (fun z => z.2)) := ⟨_, rfl⟩
  rw [← hR]
  have HR0 := hidP hR
  have HSz := hidP (fun k => jn_size (W := ⟨#[116, 97, 107, 101]⟩) (by decide) hfs (by omega) k)
  have HFz := hidP hfs
  clear hR ht hlen HI HTA HTH hfs
  have HU := hidP ((Below.refl y.heap.size y).alloc (Nat.le_refl _) (.cells #[.int .i64 8, .int .i64 s, .int .i64 q, .int .i64 n, .bool aS, .int .i64 aH.toInt, .int .i64 aL.toInt, .int .i64 ab, .int .i64 b, .bool hS, .int .i64 hH, .int .i64 hL, .string o, .int .i64 t, .int .i64 sp] 34))
  go_enter Tryd.func10, Tryd.ntmps10
  go_wp2_with fail
  refine (HRO.out _ (HT.out.below HU.out)).mono ?_
  rintro e w1 ⟨⟨h1, rfl⟩ | ⟨h1, rfl⟩, hb1⟩
  · have HB1 := hidP (HU.out.trans (hb1.mono HU.out.size))
    have z1 := HB1.out.size
    clear hb1 HRO
    have mw := fun w => Tryd.mw_8 s q n hS hH hL o sp w
    go_wp2_with fail
    refine (wd_8 s q n hS hH hL o sp _).mono ?_
    rintro e w3 ⟨rfl, hb3⟩
    have HB3 := hidP (HB1.out.trans (hb3.mono z1))
    have z3 := HB3.out.size
    clear mw hb3 HB1
    go_wp2_with fail
    refine (HFO.out _ (HT.out.below HB3.out)).mono ?_
    rintro e w2 ⟨a, c, rfl, ho, hb2⟩
    have HB2 := hidP (HB3.out.trans (hb2.mono z3))
    have z2 := HB2.out.size
    have HRow := hidP ho.row
    clear hb2 ho
    go_wp2_with fail
    go_loopw [5, 20] (fun t5 t20 x => ∃ k : Nat, k ≤ 6 ∧ t5 = .string (jn ⟨#[116, 97, 107, 101]⟩ (fl.take k)) ∧ t20 = .int .i64 k ∧ Hid (Below w2.heap.size w2 x)) (fun _ t20 _ => 6 - (intOf t20).toNat)
    case atStart => exact ⟨0, by omega, rfl, rfl, hidP (Below.refl _ _)⟩
    case round =>
      obtain ⟨k, hk, rfl, rfl, HB⟩ := hrel
      have h3 := HB.out.size
      by_cases hlt : k < 6
      · obtain ⟨p, o', z, rfl, hp, hz, d0, d1⟩ := rowF HRow.out k (by rw [HL.out]; exact hlt)
        have e0 := (HB.out.cell hp).trans d0
        have e1 := (HB.out.cell hp).trans d1
        have hlt' : (k : Int) < 6 := by omega
        have HS := hidP (jn_snoc (W := ⟨#[116, 97, 107, 101]⟩) hz)
        have s1 := HSz.out k
        have s2 := HFz.out z (List.mem_of_getElem? hz)
        clear d0 d1 hz
        obtain ⟨zt, zf⟩ := z
        have s3 : zt.size ≤ 1048600 := s2
        clear s2
        generalize jn ⟨#[116, 97, 107, 101]⟩ (fl.take k) = J at *
        go_wp2_with fail
        go_roundw
        case rel => exact ⟨k + 1, by omega, by rw [HS.out], by go_num, hidP (HB.out.alloc h3 _)⟩
        case measure => simp [intOf]; omega
      · have hkn : k = 6 := by omega
        subst hkn
        have HE : Hid (jn ⟨#[116, 97, 107, 101]⟩ (fl.take 6) = jn ⟨#[116, 97, 107, 101]⟩ fl) := hidP (by rw [List.take_of_length_le (by rw [HL.out]; omega)])
        go_wp2_with fail
        go_ret
        exact ⟨Or.inl ⟨by rw [HR0.out]; exact h1, ret_ba HE.out⟩, HB2.out.trans (HB.out.mono z2)⟩
  · have HB1 := hidP (HU.out.trans (hb1.mono HU.out.size))
    clear hb1
    go_wp2_with fail
    go_ret
    exact ⟨Or.inr ⟨by rw [HR0.out]; exact h1, rfl⟩, HB1.out⟩

end Go.Proofs.YtoadckdokdcppaaDoor

namespace Go.Proofs.YtoadckdokdcppaaDoor
open Go.RowKit

theorem wd_9 (s : Int) (q : Int) (n : Int) (hS : Bool) (hH : Int) (hL : Int) (t : Int) (sp : Int) (w : World) : Calls Tryd.prog 112 #[.agg #[.int .i64 s, .int .i64 q, .int .i64 n, .bool hS, .int .i64 hH, .int .i64 hL, .int .i64 t, .int .i64 sp]] w fun e w' => e = .returned (.string ⟨#[114, 101, 110, 101, 119]⟩) ∧ Below w.heap.size w w' := by
  go_enter Tryd.func112, Tryd.ntmps112
  go_wp2
  go_ret
  exact ⟨rfl, (Below.refl _ _).alloc (Nat.le_refl _) _⟩
theorem Tryd.mw_9 (s : Int) (q : Int) (n : Int) (hS : Bool) (hH : Int) (hL : Int) (t : Int) (sp : Int) (w : World) : (Go.method 265 91 (.agg #[.int .i64 s, .int .i64 q, .int .i64 n, .bool hS, .int .i64 hH, .int .i64 hL, .int .i64 t, .int .i64 sp]) "loop.example/g00113/impl.word").run Tryd.prog w = .ok (112, .agg #[.int .i64 s, .int .i64 q, .int .i64 n, .bool hS, .int .i64 hH, .int .i64 hL, .int .i64 t, .int .i64 sp]) w := by kernel_rfl
set_option maxRecDepth 10000 in
set_option maxHeartbeats 2000000 in
theorem tx_9 (s q n : Int) (aS : Bool) (aH aL : BitVec 64) (ab b : Int) (hS : Bool) (hH hL : Int) (o : ByteArray) (t sp : Int) (TA TH : List UInt8) (hfs : ∀ z ∈ [((fT ⟨#[115, 101, 115, 115, 105, 111, 110]⟩ s), (rB 1 s 1000000)), ((fT ⟨#[115, 101, 113]⟩ q), (rB 1 q 1000000)), ((fT ⟨#[110, 111, 119]⟩ n), (rB 0 n 1000000000)), ((hT TH), (okB hS hH hL)), ((fT ⟨#[116, 111, 107, 101, 110]⟩ t), (rB 1 t 1000000000)), ((fT ⟨#[115, 112, 97, 110]⟩ sp), (rB 1 sp 1000))], z.1.size ≤ 1048600) (HI : Hid (CmI s q n b t sp o)) (HTA : Hid (TA.length ≤ 200 ∧ ∀ w : World, Tabs w → Calls Tryd.prog 48 #[.agg #[.bool aS, .int .i64 aH.toInt, .int .i64 aL.toInt, .int .i64 ab]] w fun e w' => e = .returned (.string ⟨TA.toArray⟩) ∧ Below w.heap.size w w')) (HTH : Hid (TH.length ≤ 200 ∧ ∀ w : World, Tabs w → Calls Tryd.prog 51 #[.agg #[.bool hS, .int .i64 hH, .int .i64 hL]] w fun e w' => e = .returned (.string ⟨TH.toArray⟩) ∧ Below w.heap.size w w')) (y : World) (ht : Tabs y) :
    Calls Tryd.prog 10 #[.agg #[.int .i64 9, .int .i64 s, .int .i64 q, .int .i64 n, .bool aS, .int .i64 aH.toInt, .int .i64 aL.toInt, .int .i64 ab, .int .i64 b, .bool hS, .int .i64 hH, .int .i64 hL, .string o, .int .i64 t, .int .i64 sp]] y fun e w' => (((zCm (0) (0) (0) (0) (aS) (aH.toInt) (aL.toInt) (ab) (b) (false) (0) (0) (o) (0) (0) && [((fT ⟨#[115, 101, 115, 115, 105, 111, 110]⟩ s), (rB 1 s 1000000)), ((fT ⟨#[115, 101, 113]⟩ q), (rB 1 q 1000000)), ((fT ⟨#[110, 111, 119]⟩ n), (rB 0 n 1000000000)), ((hT TH), (okB hS hH hL)), ((fT ⟨#[116, 111, 107, 101, 110]⟩ t), (rB 1 t 1000000000)), ((fT ⟨#[115, 112, 97, 110]⟩ sp), (rB 1 sp 1000))].all (fun z => z.2)) = true ∧ e = .returned (.string (jn ⟨#[114, 101, 110, 101, 119]⟩ [((fT ⟨#[115, 101, 115, 115, 105, 111, 110]⟩ s), (rB 1 s 1000000)), ((fT ⟨#[115, 101, 113]⟩ q), (rB 1 q 1000000)), ((fT ⟨#[110, 111, 119]⟩ n), (rB 0 n 1000000000)), ((hT TH), (okB hS hH hL)), ((fT ⟨#[116, 111, 107, 101, 110]⟩ t), (rB 1 t 1000000000)), ((fT ⟨#[115, 112, 97, 110]⟩ sp), (rB 1 sp 1000))]))) ∨ ((zCm (0) (0) (0) (0) (aS) (aH.toInt) (aL.toInt) (ab) (b) (false) (0) (0) (o) (0) (0) && [((fT ⟨#[115, 101, 115, 115, 105, 111, 110]⟩ s), (rB 1 s 1000000)), ((fT ⟨#[115, 101, 113]⟩ q), (rB 1 q 1000000)), ((fT ⟨#[110, 111, 119]⟩ n), (rB 0 n 1000000000)), ((hT TH), (okB hS hH hL)), ((fT ⟨#[116, 111, 107, 101, 110]⟩ t), (rB 1 t 1000000000)), ((fT ⟨#[115, 112, 97, 110]⟩ sp), (rB 1 sp 1000))].all (fun z => z.2)) = false ∧ e = .returned (.string ⟨#[]⟩))) ∧ Below y.heap.size y w' := by
  have HT := hidP ht
  have HFO := hidP (fun w (h : Tabs w) => fo_9 s q n aS aH aL ab b hS hH hL o t sp TA TH HI HTA HTH w h)
  have HRO := hidP (fun w (h : Tabs w) => ro_9 s q n aS aH aL ab b hS hH hL o t sp TA TH HI HTA HTH w h)
  have hlen : [((fT ⟨#[115, 101, 115, 115, 105, 111, 110]⟩ s), (rB 1 s 1000000)), ((fT ⟨#[115, 101, 113]⟩ q), (rB 1 q 1000000)), ((fT ⟨#[110, 111, 119]⟩ n), (rB 0 n 1000000000)), ((hT TH), (okB hS hH hL)), ((fT ⟨#[116, 111, 107, 101, 110]⟩ t), (rB 1 t 1000000000)), ((fT ⟨#[115, 112, 97, 110]⟩ sp), (rB 1 sp 1000))].length = 6 := rfl
  generalize [((fT ⟨#[115, 101, 115, 115, 105, 111, 110]⟩ s), (rB 1 s 1000000)), ((fT ⟨#[115, 101, 113]⟩ q), (rB 1 q 1000000)), ((fT ⟨#[110, 111, 119]⟩ n), (rB 0 n 1000000000)), ((hT TH), (okB hS hH hL)), ((fT ⟨#[116, 111, 107, 101, 110]⟩ t), (rB 1 t 1000000000)), ((fT ⟨#[115, 112, 97, 110]⟩ sp), (rB 1 sp 1000))] = fl at *
  have HL := hidP hlen
  obtain ⟨R, hR⟩ : ∃ R : Bool, R = (zCm (0) (0) (0) (0) (aS) (aH.toInt) (aL.toInt) (ab) (b) (false) (0) (0) (o) (0) (0) && fl.all (fun z => z.2)) := ⟨_, rfl⟩
  rw [← hR]
  have HR0 := hidP hR
  have HSz := hidP (fun k => jn_size (W := ⟨#[114, 101, 110, 101, 119]⟩) (by decide) hfs (by omega) k)
  have HFz := hidP hfs
  clear hR ht hlen HI HTA HTH hfs
  have HU := hidP ((Below.refl y.heap.size y).alloc (Nat.le_refl _) (.cells #[.int .i64 9, .int .i64 s, .int .i64 q, .int .i64 n, .bool aS, .int .i64 aH.toInt, .int .i64 aL.toInt, .int .i64 ab, .int .i64 b, .bool hS, .int .i64 hH, .int .i64 hL, .string o, .int .i64 t, .int .i64 sp] 34))
  go_enter Tryd.func10, Tryd.ntmps10
  go_wp2_with fail
  refine (HRO.out _ (HT.out.below HU.out)).mono ?_
  rintro e w1 ⟨⟨h1, rfl⟩ | ⟨h1, rfl⟩, hb1⟩
  · have HB1 := hidP (HU.out.trans (hb1.mono HU.out.size))
    have z1 := HB1.out.size
    clear hb1 HRO
    have mw := fun w => Tryd.mw_9 s q n hS hH hL t sp w
    go_wp2_with fail
    refine (wd_9 s q n hS hH hL t sp _).mono ?_
    rintro e w3 ⟨rfl, hb3⟩
    have HB3 := hidP (HB1.out.trans (hb3.mono z1))
    have z3 := HB3.out.size
    clear mw hb3 HB1
    go_wp2_with fail
    refine (HFO.out _ (HT.out.below HB3.out)).mono ?_
    rintro e w2 ⟨a, c, rfl, ho, hb2⟩
    have HB2 := hidP (HB3.out.trans (hb2.mono z3))
    have z2 := HB2.out.size
    have HRow := hidP ho.row
    clear hb2 ho
    go_wp2_with fail
    go_loopw [5, 20] (fun t5 t20 x => ∃ k : Nat, k ≤ 6 ∧ t5 = .string (jn ⟨#[114, 101, 110, 101, 119]⟩ (fl.take k)) ∧ t20 = .int .i64 k ∧ Hid (Below w2.heap.size w2 x)) (fun _ t20 _ => 6 - (intOf t20).toNat)
    case atStart => exact ⟨0, by omega, rfl, rfl, hidP (Below.refl _ _)⟩
    case round =>
      obtain ⟨k, hk, rfl, rfl, HB⟩ := hrel
      have h3 := HB.out.size
      by_cases hlt : k < 6
      · obtain ⟨p, o', z, rfl, hp, hz, d0, d1⟩ := rowF HRow.out k (by rw [HL.out]; exact hlt)
        have e0 := (HB.out.cell hp).trans d0
        have e1 := (HB.out.cell hp).trans d1
        have hlt' : (k : Int) < 6 := by omega
        have HS := hidP (jn_snoc (W := ⟨#[114, 101, 110, 101, 119]⟩) hz)
        have s1 := HSz.out k
        have s2 := HFz.out z (List.mem_of_getElem? hz)
        clear d0 d1 hz
        obtain ⟨zt, zf⟩ := z
        have s3 : zt.size ≤ 1048600 := s2
        clear s2
        generalize jn ⟨#[114, 101, 110, 101, 119]⟩ (fl.take k) = J at *
        go_wp2_with fail
        go_roundw
        case rel => exact ⟨k + 1, by omega, by rw [HS.out], by go_num, hidP (HB.out.alloc h3 _)⟩
        case measure => simp [intOf]; omega
      · have hkn : k = 6 := by omega
        subst hkn
        have HE : Hid (jn ⟨#[114, 101, 110, 101, 119]⟩ (fl.take 6) = jn ⟨#[114, 101, 110, 101, 119]⟩ fl) := hidP (by rw [List.take_of_length_le (by rw [HL.out]; omega)])
        go_wp2_with fail
        go_ret
        exact ⟨Or.inl ⟨by rw [HR0.out]; exact h1, ret_ba HE.out⟩, HB2.out.trans (HB.out.mono z2)⟩
  · have HB1 := hidP (HU.out.trans (hb1.mono HU.out.size))
    clear hb1
    go_wp2_with fail
    go_ret
    exact ⟨Or.inr ⟨by rw [HR0.out]; exact h1, rfl⟩, HB1.out⟩

theorem wd_10 (s : Int) (q : Int) (n : Int) (hS : Bool) (hH : Int) (hL : Int) (t : Int) (w : World) : Calls Tryd.prog 113 #[.agg #[.int .i64 s, .int .i64 q, .int .i64 n, .bool hS, .int .i64 hH, .int .i64 hL, .int .i64 t]] w fun e w' => e = .returned (.string ⟨#[114, 101, 108, 101, 97, 115, 101]⟩) ∧ Below w.heap.size w w' := by
  go_enter Tryd.func113, Tryd.ntmps113
  go_wp2
  go_ret
  exact ⟨rfl, (Below.refl _ _).alloc (Nat.le_refl _) _⟩
theorem Tryd.mw_10 (s : Int) (q : Int) (n : Int) (hS : Bool) (hH : Int) (hL : Int) (t : Int) (w : World) : (Go.method 265 93 (.agg #[.int .i64 s, .int .i64 q, .int .i64 n, .bool hS, .int .i64 hH, .int .i64 hL, .int .i64 t]) "loop.example/g00113/impl.word").run Tryd.prog w = .ok (113, .agg #[.int .i64 s, .int .i64 q, .int .i64 n, .bool hS, .int .i64 hH, .int .i64 hL, .int .i64 t]) w := by kernel_rfl
set_option maxRecDepth 10000 in
set_option maxHeartbeats 2000000 in
theorem tx_10 (s q n : Int) (aS : Bool) (aH aL : BitVec 64) (ab b : Int) (hS : Bool) (hH hL : Int) (o : ByteArray) (t sp : Int) (TA TH : List UInt8) (hfs : ∀ z ∈ [((fT ⟨#[115, 101, 115, 115, 105, 111, 110]⟩ s), (rB 1 s 1000000)), ((fT ⟨#[115, 101, 113]⟩ q), (rB 1 q 1000000)), ((fT ⟨#[110, 111, 119]⟩ n), (rB 0 n 1000000000)), ((hT TH), (okB hS hH hL)), ((fT ⟨#[116, 111, 107, 101, 110]⟩ t), (rB 1 t 1000000000))], z.1.size ≤ 1048600) (HI : Hid (CmI s q n b t sp o)) (HTA : Hid (TA.length ≤ 200 ∧ ∀ w : World, Tabs w → Calls Tryd.prog 48 #[.agg #[.bool aS, .int .i64 aH.toInt, .int .i64 aL.toInt, .int .i64 ab]] w fun e w' => e = .returned (.string ⟨TA.toArray⟩) ∧ Below w.heap.size w w')) (HTH : Hid (TH.length ≤ 200 ∧ ∀ w : World, Tabs w → Calls Tryd.prog 51 #[.agg #[.bool hS, .int .i64 hH, .int .i64 hL]] w fun e w' => e = .returned (.string ⟨TH.toArray⟩) ∧ Below w.heap.size w w')) (y : World) (ht : Tabs y) :
    Calls Tryd.prog 10 #[.agg #[.int .i64 10, .int .i64 s, .int .i64 q, .int .i64 n, .bool aS, .int .i64 aH.toInt, .int .i64 aL.toInt, .int .i64 ab, .int .i64 b, .bool hS, .int .i64 hH, .int .i64 hL, .string o, .int .i64 t, .int .i64 sp]] y fun e w' => (((zCm (0) (0) (0) (0) (aS) (aH.toInt) (aL.toInt) (ab) (b) (false) (0) (0) (o) (0) (sp) && [((fT ⟨#[115, 101, 115, 115, 105, 111, 110]⟩ s), (rB 1 s 1000000)), ((fT ⟨#[115, 101, 113]⟩ q), (rB 1 q 1000000)), ((fT ⟨#[110, 111, 119]⟩ n), (rB 0 n 1000000000)), ((hT TH), (okB hS hH hL)), ((fT ⟨#[116, 111, 107, 101, 110]⟩ t), (rB 1 t 1000000000))].all (fun z => z.2)) = true ∧ e = .returned (.string (jn ⟨#[114, 101, 108, 101, 97, 115, 101]⟩ [((fT ⟨#[115, 101, 115, 115, 105, 111, 110]⟩ s), (rB 1 s 1000000)), ((fT ⟨#[115, 101, 113]⟩ q), (rB 1 q 1000000)), ((fT ⟨#[110, 111, 119]⟩ n), (rB 0 n 1000000000)), ((hT TH), (okB hS hH hL)), ((fT ⟨#[116, 111, 107, 101, 110]⟩ t), (rB 1 t 1000000000))]))) ∨ ((zCm (0) (0) (0) (0) (aS) (aH.toInt) (aL.toInt) (ab) (b) (false) (0) (0) (o) (0) (sp) && [((fT ⟨#[115, 101, 115, 115, 105, 111, 110]⟩ s), (rB 1 s 1000000)), ((fT ⟨#[115, 101, 113]⟩ q), (rB 1 q 1000000)), ((fT ⟨#[110, 111, 119]⟩ n), (rB 0 n 1000000000)), ((hT TH), (okB hS hH hL)), ((fT ⟨#[116, 111, 107, 101, 110]⟩ t), (rB 1 t 1000000000))].all (fun z => z.2)) = false ∧ e = .returned (.string ⟨#[]⟩))) ∧ Below y.heap.size y w' := by
  have HT := hidP ht
  have HFO := hidP (fun w (h : Tabs w) => fo_10 s q n aS aH aL ab b hS hH hL o t sp TA TH HI HTA HTH w h)
  have HRO := hidP (fun w (h : Tabs w) => ro_10 s q n aS aH aL ab b hS hH hL o t sp TA TH HI HTA HTH w h)
  have hlen : [((fT ⟨#[115, 101, 115, 115, 105, 111, 110]⟩ s), (rB 1 s 1000000)), ((fT ⟨#[115, 101, 113]⟩ q), (rB 1 q 1000000)), ((fT ⟨#[110, 111, 119]⟩ n), (rB 0 n 1000000000)), ((hT TH), (okB hS hH hL)), ((fT ⟨#[116, 111, 107, 101, 110]⟩ t), (rB 1 t 1000000000))].length = 5 := rfl
  generalize [((fT ⟨#[115, 101, 115, 115, 105, 111, 110]⟩ s), (rB 1 s 1000000)), ((fT ⟨#[115, 101, 113]⟩ q), (rB 1 q 1000000)), ((fT ⟨#[110, 111, 119]⟩ n), (rB 0 n 1000000000)), ((hT TH), (okB hS hH hL)), ((fT ⟨#[116, 111, 107, 101, 110]⟩ t), (rB 1 t 1000000000))] = fl at *
  have HL := hidP hlen
  obtain ⟨R, hR⟩ : ∃ R : Bool, R = (zCm (0) (0) (0) (0) (aS) (aH.toInt) (aL.toInt) (ab) (b) (false) (0) (0) (o) (0) (sp) && fl.all (fun z => z.2)) := ⟨_, rfl⟩
  rw [← hR]
  have HR0 := hidP hR
  have HSz := hidP (fun k => jn_size (W := ⟨#[114, 101, 108, 101, 97, 115, 101]⟩) (by decide) hfs (by omega) k)
  have HFz := hidP hfs
  clear hR ht hlen HI HTA HTH hfs
  have HU := hidP ((Below.refl y.heap.size y).alloc (Nat.le_refl _) (.cells #[.int .i64 10, .int .i64 s, .int .i64 q, .int .i64 n, .bool aS, .int .i64 aH.toInt, .int .i64 aL.toInt, .int .i64 ab, .int .i64 b, .bool hS, .int .i64 hH, .int .i64 hL, .string o, .int .i64 t, .int .i64 sp] 34))
  go_enter Tryd.func10, Tryd.ntmps10
  go_wp2_with fail
  refine (HRO.out _ (HT.out.below HU.out)).mono ?_
  rintro e w1 ⟨⟨h1, rfl⟩ | ⟨h1, rfl⟩, hb1⟩
  · have HB1 := hidP (HU.out.trans (hb1.mono HU.out.size))
    have z1 := HB1.out.size
    clear hb1 HRO
    have mw := fun w => Tryd.mw_10 s q n hS hH hL t w
    go_wp2_with fail
    refine (wd_10 s q n hS hH hL t _).mono ?_
    rintro e w3 ⟨rfl, hb3⟩
    have HB3 := hidP (HB1.out.trans (hb3.mono z1))
    have z3 := HB3.out.size
    clear mw hb3 HB1
    go_wp2_with fail
    refine (HFO.out _ (HT.out.below HB3.out)).mono ?_
    rintro e w2 ⟨a, c, rfl, ho, hb2⟩
    have HB2 := hidP (HB3.out.trans (hb2.mono z3))
    have z2 := HB2.out.size
    have HRow := hidP ho.row
    clear hb2 ho
    go_wp2_with fail
    go_loopw [5, 20] (fun t5 t20 x => ∃ k : Nat, k ≤ 5 ∧ t5 = .string (jn ⟨#[114, 101, 108, 101, 97, 115, 101]⟩ (fl.take k)) ∧ t20 = .int .i64 k ∧ Hid (Below w2.heap.size w2 x)) (fun _ t20 _ => 5 - (intOf t20).toNat)
    case atStart => exact ⟨0, by omega, rfl, rfl, hidP (Below.refl _ _)⟩
    case round =>
      obtain ⟨k, hk, rfl, rfl, HB⟩ := hrel
      have h3 := HB.out.size
      by_cases hlt : k < 5
      · obtain ⟨p, o', z, rfl, hp, hz, d0, d1⟩ := rowF HRow.out k (by rw [HL.out]; exact hlt)
        have e0 := (HB.out.cell hp).trans d0
        have e1 := (HB.out.cell hp).trans d1
        have hlt' : (k : Int) < 5 := by omega
        have HS := hidP (jn_snoc (W := ⟨#[114, 101, 108, 101, 97, 115, 101]⟩) hz)
        have s1 := HSz.out k
        have s2 := HFz.out z (List.mem_of_getElem? hz)
        clear d0 d1 hz
        obtain ⟨zt, zf⟩ := z
        have s3 : zt.size ≤ 1048600 := s2
        clear s2
        generalize jn ⟨#[114, 101, 108, 101, 97, 115, 101]⟩ (fl.take k) = J at *
        go_wp2_with fail
        go_roundw
        case rel => exact ⟨k + 1, by omega, by rw [HS.out], by go_num, hidP (HB.out.alloc h3 _)⟩
        case measure => simp [intOf]; omega
      · have hkn : k = 5 := by omega
        subst hkn
        have HE : Hid (jn ⟨#[114, 101, 108, 101, 97, 115, 101]⟩ (fl.take 5) = jn ⟨#[114, 101, 108, 101, 97, 115, 101]⟩ fl) := hidP (by rw [List.take_of_length_le (by rw [HL.out]; omega)])
        go_wp2_with fail
        go_ret
        exact ⟨Or.inl ⟨by rw [HR0.out]; exact h1, ret_ba HE.out⟩, HB2.out.trans (HB.out.mono z2)⟩
  · have HB1 := hidP (HU.out.trans (hb1.mono HU.out.size))
    clear hb1
    go_wp2_with fail
    go_ret
    exact ⟨Or.inr ⟨by rw [HR0.out]; exact h1, rfl⟩, HB1.out⟩

theorem wd_11 (n : Int) (w : World) : Calls Tryd.prog 114 #[.agg #[.int .i64 n]] w fun e w' => e = .returned (.string ⟨#[116, 105, 109, 101]⟩) ∧ Below w.heap.size w w' := by
  go_enter Tryd.func114, Tryd.ntmps114
  go_wp2
  go_ret
  exact ⟨rfl, (Below.refl _ _).alloc (Nat.le_refl _) _⟩
theorem Tryd.mw_11 (n : Int) (w : World) : (Go.method 265 94 (.agg #[.int .i64 n]) "loop.example/g00113/impl.word").run Tryd.prog w = .ok (114, .agg #[.int .i64 n]) w := by kernel_rfl
set_option maxRecDepth 10000 in
set_option maxHeartbeats 2000000 in
theorem tx_11 (s q n : Int) (aS : Bool) (aH aL : BitVec 64) (ab b : Int) (hS : Bool) (hH hL : Int) (o : ByteArray) (t sp : Int) (TA TH : List UInt8) (hfs : ∀ z ∈ [((fT ⟨#[110, 111, 119]⟩ n), (rB 0 n 1000000000))], z.1.size ≤ 1048600) (HI : Hid (CmI s q n b t sp o)) (HTA : Hid (TA.length ≤ 200 ∧ ∀ w : World, Tabs w → Calls Tryd.prog 48 #[.agg #[.bool aS, .int .i64 aH.toInt, .int .i64 aL.toInt, .int .i64 ab]] w fun e w' => e = .returned (.string ⟨TA.toArray⟩) ∧ Below w.heap.size w w')) (HTH : Hid (TH.length ≤ 200 ∧ ∀ w : World, Tabs w → Calls Tryd.prog 51 #[.agg #[.bool hS, .int .i64 hH, .int .i64 hL]] w fun e w' => e = .returned (.string ⟨TH.toArray⟩) ∧ Below w.heap.size w w')) (y : World) (ht : Tabs y) :
    Calls Tryd.prog 10 #[.agg #[.int .i64 11, .int .i64 s, .int .i64 q, .int .i64 n, .bool aS, .int .i64 aH.toInt, .int .i64 aL.toInt, .int .i64 ab, .int .i64 b, .bool hS, .int .i64 hH, .int .i64 hL, .string o, .int .i64 t, .int .i64 sp]] y fun e w' => (((zCm (0) (s) (q) (0) (aS) (aH.toInt) (aL.toInt) (ab) (b) (hS) (hH) (hL) (o) (t) (sp) && [((fT ⟨#[110, 111, 119]⟩ n), (rB 0 n 1000000000))].all (fun z => z.2)) = true ∧ e = .returned (.string (jn ⟨#[116, 105, 109, 101]⟩ [((fT ⟨#[110, 111, 119]⟩ n), (rB 0 n 1000000000))]))) ∨ ((zCm (0) (s) (q) (0) (aS) (aH.toInt) (aL.toInt) (ab) (b) (hS) (hH) (hL) (o) (t) (sp) && [((fT ⟨#[110, 111, 119]⟩ n), (rB 0 n 1000000000))].all (fun z => z.2)) = false ∧ e = .returned (.string ⟨#[]⟩))) ∧ Below y.heap.size y w' := by
  have HT := hidP ht
  have HFO := hidP (fun w (h : Tabs w) => fo_11 s q n aS aH aL ab b hS hH hL o t sp TA TH HI HTA HTH w h)
  have HRO := hidP (fun w (h : Tabs w) => ro_11 s q n aS aH aL ab b hS hH hL o t sp TA TH HI HTA HTH w h)
  have hlen : [((fT ⟨#[110, 111, 119]⟩ n), (rB 0 n 1000000000))].length = 1 := rfl
  generalize [((fT ⟨#[110, 111, 119]⟩ n), (rB 0 n 1000000000))] = fl at *
  have HL := hidP hlen
  obtain ⟨R, hR⟩ : ∃ R : Bool, R = (zCm (0) (s) (q) (0) (aS) (aH.toInt) (aL.toInt) (ab) (b) (hS) (hH) (hL) (o) (t) (sp) && fl.all (fun z => z.2)) := ⟨_, rfl⟩
  rw [← hR]
  have HR0 := hidP hR
  have HSz := hidP (fun k => jn_size (W := ⟨#[116, 105, 109, 101]⟩) (by decide) hfs (by omega) k)
  have HFz := hidP hfs
  clear hR ht hlen HI HTA HTH hfs
  have HU := hidP ((Below.refl y.heap.size y).alloc (Nat.le_refl _) (.cells #[.int .i64 11, .int .i64 s, .int .i64 q, .int .i64 n, .bool aS, .int .i64 aH.toInt, .int .i64 aL.toInt, .int .i64 ab, .int .i64 b, .bool hS, .int .i64 hH, .int .i64 hL, .string o, .int .i64 t, .int .i64 sp] 34))
  go_enter Tryd.func10, Tryd.ntmps10
  go_wp2_with fail
  refine (HRO.out _ (HT.out.below HU.out)).mono ?_
  rintro e w1 ⟨⟨h1, rfl⟩ | ⟨h1, rfl⟩, hb1⟩
  · have HB1 := hidP (HU.out.trans (hb1.mono HU.out.size))
    have z1 := HB1.out.size
    clear hb1 HRO
    have mw := fun w => Tryd.mw_11 n w
    go_wp2_with fail
    refine (wd_11 n _).mono ?_
    rintro e w3 ⟨rfl, hb3⟩
    have HB3 := hidP (HB1.out.trans (hb3.mono z1))
    have z3 := HB3.out.size
    clear mw hb3 HB1
    go_wp2_with fail
    refine (HFO.out _ (HT.out.below HB3.out)).mono ?_
    rintro e w2 ⟨a, c, rfl, ho, hb2⟩
    have HB2 := hidP (HB3.out.trans (hb2.mono z3))
    have z2 := HB2.out.size
    have HRow := hidP ho.row
    clear hb2 ho
    go_wp2_with fail
    go_loopw [5, 20] (fun t5 t20 x => ∃ k : Nat, k ≤ 1 ∧ t5 = .string (jn ⟨#[116, 105, 109, 101]⟩ (fl.take k)) ∧ t20 = .int .i64 k ∧ Hid (Below w2.heap.size w2 x)) (fun _ t20 _ => 1 - (intOf t20).toNat)
    case atStart => exact ⟨0, by omega, rfl, rfl, hidP (Below.refl _ _)⟩
    case round =>
      obtain ⟨k, hk, rfl, rfl, HB⟩ := hrel
      have h3 := HB.out.size
      by_cases hlt : k < 1
      · obtain ⟨p, o', z, rfl, hp, hz, d0, d1⟩ := rowF HRow.out k (by rw [HL.out]; exact hlt)
        have e0 := (HB.out.cell hp).trans d0
        have e1 := (HB.out.cell hp).trans d1
        have hlt' : (k : Int) < 1 := by omega
        have HS := hidP (jn_snoc (W := ⟨#[116, 105, 109, 101]⟩) hz)
        have s1 := HSz.out k
        have s2 := HFz.out z (List.mem_of_getElem? hz)
        clear d0 d1 hz
        obtain ⟨zt, zf⟩ := z
        have s3 : zt.size ≤ 1048600 := s2
        clear s2
        generalize jn ⟨#[116, 105, 109, 101]⟩ (fl.take k) = J at *
        go_wp2_with fail
        go_roundw
        case rel => exact ⟨k + 1, by omega, by rw [HS.out], by go_num, hidP (HB.out.alloc h3 _)⟩
        case measure => simp [intOf]; omega
      · have hkn : k = 1 := by omega
        subst hkn
        have HE : Hid (jn ⟨#[116, 105, 109, 101]⟩ (fl.take 1) = jn ⟨#[116, 105, 109, 101]⟩ fl) := hidP (by rw [List.take_of_length_le (by rw [HL.out]; omega)])
        go_wp2_with fail
        go_ret
        exact ⟨Or.inl ⟨by rw [HR0.out]; exact h1, ret_ba HE.out⟩, HB2.out.trans (HB.out.mono z2)⟩
  · have HB1 := hidP (HU.out.trans (hb1.mono HU.out.size))
    clear hb1
    go_wp2_with fail
    go_ret
    exact ⟨Or.inr ⟨by rw [HR0.out]; exact h1, rfl⟩, HB1.out⟩

end Go.Proofs.YtoadckdokdcppaaDoor
