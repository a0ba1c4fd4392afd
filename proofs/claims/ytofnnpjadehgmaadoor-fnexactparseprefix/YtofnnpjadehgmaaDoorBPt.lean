/-
  Both PrefixText, by one plain twin: the address's text, a stroke and the digits of the bits; nothing old in memory turns.
-/
import Derived.Test.YtofnnpjadehgmaaDoorDSSix
import Derived.Test.YtofnnpjadehgmaaDoorDEq
import Derived.Test.YtofnnpjadehgmaaDoorBIPok
import Derived.Deep.RegionHeld3
import Derived.Deep.RegionWith
import Derived.Deep.DeepCutAuto
namespace Go.Proofs.YtofnnpjadehgmaaDoor
open Go.RowKit

theorem txt4_len (L : Int) : (txt4 L).length ≤ 100 := by
  have h1 := decs_len (L / 16777216 % 256); have h2 := decs_len (L / 65536 % 256); have h3 := decs_len (L / 256 % 256); have h4 := decs_len (L % 256)
  simp [txt4]; omega
theorem txt8_len (g : Nat → Int) : (txt8 g).length ≤ 100 := by
  have bd := lrow_bd g 8
  unfold txt8
  split
  · exact Nat.le_trans (join_len g 0 8 (by omega)) (by omega)
  · have h1 := join_len g 0 (lrow g 8).1 (by omega)
    have h2 := join_len g (lrow g 8).2.1 (8 - (lrow g 8).2.1) (by omega)
    simp only [List.length_append, List.length_cons, List.length_nil]
    omega

/-- Both AddrText return one and the same text, of 100 bytes at most. -/
theorem text_bothP (s : Bool) (h l : Int) (wh : -9223372036854775808 ≤ h ∧ h ≤ 9223372036854775807) (wl : -9223372036854775808 ≤ l ∧ l ≤ 9223372036854775807) :
    ∃ T : List UInt8, T.length ≤ 100 ∧ (∀ w : World, Calls Tryd.prog 41 #[.agg #[.bool s, .int .i64 h, .int .i64 l]] w fun e w' => e = .returned (.string ⟨T.toArray⟩) ∧ Below w.heap.size w w') ∧
      (∀ w : World, Tabs w → Calls Tryd.prog 11 #[.agg #[.bool s, .int .i64 h, .int .i64 l]] w fun e w' => e = .returned (.string ⟨T.toArray⟩) ∧ Below w.heap.size w w') := by
  obtain ⟨S, H, L, hz, _, _, hS⟩ := Nrm_ex s h l wh wl
  cases S
  · obtain ⟨_, h0, h1⟩ := hS rfl
    exact ⟨txt4 L, txt4_len L, sText_four s h l H L hz h0 h1, fun w ht => iText_four s h l H L hz h0 h1 w ht⟩
  · refine ⟨txt8 (grp H L), txt8_len _, fun w => ?_, fun w ht => iText_six s h l H L hz w ht⟩
    have := sText_six s h l H L hz w
    rwa [text_eq] at this

/-- The digits that the library writes of a number below 256, and what it leaves. -/
theorem itoaP (z : Int) (h0 : 0 ≤ z) (h1 : z < 256) (w : World) (ht : Tabs w) :
    Calls Tryd.prog 61 #[.int .i64 z] w fun e w' => e = .returned (.string ⟨(decs z).toArray⟩) ∧ Below w.heap.size w w' := by
  refine (Tryd.strconv_Itoa z (by omega) (by omega) w ht.pow).mono ?_
  rintro e w' ⟨rfl, k, os, rfl⟩
  rw [itoa_decs z h0 h1]
  exact ⟨rfl, below_grow w k os⟩
theorem figP (z : Int) (h0 : 0 ≤ z) (h1 : z < 256) (w : World) :
    Calls Tryd.prog 54 #[.int .u64 z, .int .u64 10] w fun e w' => e = .returned (.string ⟨(decs z).toArray⟩) ∧ Below w.heap.size w w' := by
  refine (fig10 z h0 h1 w).mono ?_
  rintro e w' ⟨rfl, k, rfl⟩
  exact ⟨rfl, below_drewN (Below.refl _ w) k⟩

set_option maxHeartbeats 1000000 in
theorem sPText_no (s : Bool) (H L : BitVec 64) (b : Int) (hp : pokB s H L b = false) (w : World) :
    Calls Tryd.prog 42 #[.agg #[.bool s, .int .i64 H.toInt, .int .i64 L.toInt, .int .i64 b]] w fun e w' => e = .returned (.string ⟨#[]⟩) ∧ Below w.heap.size w w' := by
  have HP : Hid (∀ w, _) := sPrefixOk_any s H L b
  rw [hp] at HP
  clear hp
  go_enter Tryd.func42, Tryd.ntmps42
  go_wp2_with fail
  refine (HP.out _).mono ?_
  rintro e w1 ⟨rfl, hb1⟩
  have hz1 := hb1.size
  try simp at hz1
  have f10 : w.heap.size < w1.heap.size := by omega
  refine olds_k (w.heap.size + 1) hb1 ?_ ?_
  · first | omega | (simp; omega) | (simp; done)
  intro hc1 hf1
  go_wp2_with fail
  go_ret
  refine ⟨rfl, ?_⟩
  repeat (first | with_reducible exact Below.refl _ _ | (with_reducible refine Below.drew ?_) | (with_reducible refine Below.alloc ?_ ?_ _; rotate_left; (focus (first | omega | (simp; omega) | (simp; done)))) | (with_reducible refine Below.setCell ?_ ?_ _; rotate_left; (focus (first | omega | (simp; omega) | (simp; done)))) | (with_reducible refine Below.trans ?_ (hb1.mono ?_); rotate_left; (focus (first | omega | (simp; omega) | (simp; done)))))

set_option maxHeartbeats 1000000 in
theorem sPText_yes (s : Bool) (H L : BitVec 64) (b : Int) (T D : List UInt8) (hb0 : 0 ≤ b) (hb1 : b ≤ 128) (hT : T.length ≤ 100) (hD : D.length ≤ 3) (hd : D = decs b) (ht : (∀ w : World, Calls Tryd.prog 41 #[.agg #[.bool s, .int .i64 H.toInt, .int .i64 L.toInt]] w fun e w' => e = .returned (.string ⟨T.toArray⟩) ∧ Below w.heap.size w w')) (hp : pokB s H L b = true) (w : World) :
    Calls Tryd.prog 42 #[.agg #[.bool s, .int .i64 H.toInt, .int .i64 L.toInt, .int .i64 b]] w fun e w' => e = .returned (.string ⟨(T ++ [47] ++ D).toArray⟩) ∧ Below w.heap.size w w' := by
  have HF : Hid (∀ w, _) := figP b hb0 (by omega)
  rw [← hd] at HF
  have HT : Hid (∀ w : World, _) := ht
  have hu : IntKind.u64.wrap b = b := by rw [IntKind.wrap_u64]; omega
  clear hd ht hb1
  have HP : Hid (∀ w, _) := sPrefixOk_any s H L b
  rw [hp] at HP
  clear hp
  go_enter Tryd.func42, Tryd.ntmps42
  go_wp2_with fail
  refine (HP.out _).mono ?_
  rintro e w1 ⟨rfl, hb1⟩
  have hz1 := hb1.size
  try simp at hz1
  have f10 : w.heap.size < w1.heap.size := by omega
  refine olds_k (w.heap.size + 1) hb1 ?_ ?_
  · first | omega | (simp; omega) | (simp; done)
  intro hc1 hf1
  go_wp2_with fail
  go_region_with (first | (go_at_call 41; refine (HT.out _).mono ?_; rintro e w2 ⟨rfl, hb2⟩; have hz2 := hb2.size; (try simp at hz2); (first | (refine ltk (w.heap.size) (w2.heap.size) ?_ ?_; (focus omega); intro f20) | skip); (refine olds_k (w.heap.size + 1) hb2 ?_ ?_; (focus (first | omega | (simp; omega) | (simp; done))); intro hc2 hf2)) | (go_at_call 54; refine (HF.out _).mono ?_; rintro e w3 ⟨rfl, hb3⟩; have hz3 := hb3.size; (try simp at hz3); (first | (refine ltk (w.heap.size) (w3.heap.size) ?_ ?_; (focus omega); intro f30) | skip); (refine olds_k (w.heap.size + 1) hb3 ?_ ?_; (focus (first | omega | (simp; omega) | (simp; done))); intro hc3 hf3)))
  all_goals
    go_wp2_with fail
    go_ret
    refine ⟨ret_ba (ba3 T [47] D), ?_⟩
    repeat (first | with_reducible exact Below.refl _ _ | (with_reducible refine Below.drew ?_) | (with_reducible refine Below.alloc ?_ ?_ _; rotate_left; (focus (first | omega | (simp; omega) | (simp; done)))) | (with_reducible refine Below.setCell ?_ ?_ _; rotate_left; (focus (first | omega | (simp; omega) | (simp; done)))) | (with_reducible refine Below.trans ?_ (hb3.mono ?_); rotate_left; (focus (first | omega | (simp; omega) | (simp; done)))) | (with_reducible refine Below.trans ?_ (hb2.mono ?_); rotate_left; (focus (first | omega | (simp; omega) | (simp; done)))) | (with_reducible refine Below.trans ?_ (hb1.mono ?_); rotate_left; (focus (first | omega | (simp; omega) | (simp; done)))))

set_option maxHeartbeats 1000000 in
theorem iPText_no (s : Bool) (H L : BitVec 64) (b : Int) (hp : pokB s H L b = false) (w : World) :
    Calls Tryd.prog 45 #[.agg #[.bool s, .int .i64 H.toInt, .int .i64 L.toInt, .int .i64 b]] w fun e w' => e = .returned (.string ⟨#[]⟩) ∧ Below w.heap.size w w' := by
  have HP : Hid (∀ w, _) := iPrefixOk_any s H L b
  rw [hp] at HP
  clear hp
  go_enter Tryd.func45, Tryd.ntmps45
  go_wp2_with fail
  refine (HP.out _).mono ?_
  rintro e w1 ⟨rfl, hb1⟩
  have hz1 := hb1.size
  try simp at hz1
  have f10 : w.heap.size < w1.heap.size := by omega
  refine olds_k (w.heap.size + 1) hb1 ?_ ?_
  · first | omega | (simp; omega) | (simp; done)
  intro hc1 hf1
  go_wp2_with fail
  go_ret
  refine ⟨rfl, ?_⟩
  repeat (first | with_reducible exact Below.refl _ _ | (with_reducible refine Below.drew ?_) | (with_reducible refine Below.alloc ?_ ?_ _; rotate_left; (focus (first | omega | (simp; omega) | (simp; done)))) | (with_reducible refine Below.setCell ?_ ?_ _; rotate_left; (focus (first | omega | (simp; omega) | (simp; done)))) | (with_reducible refine Below.trans ?_ (hb1.mono ?_); rotate_left; (focus (first | omega | (simp; omega) | (simp; done)))))

set_option maxHeartbeats 1000000 in
theorem iPText_yes (s : Bool) (H L : BitVec 64) (b : Int) (T D : List UInt8) (hb0 : 0 ≤ b) (hb1 : b ≤ 128) (hT : T.length ≤ 100) (hD : D.length ≤ 3) (hd : D = decs b) (ht : (∀ w : World, Tabs w → Calls Tryd.prog 11 #[.agg #[.bool s, .int .i64 H.toInt, .int .i64 L.toInt]] w fun e w' => e = .returned (.string ⟨T.toArray⟩) ∧ Below w.heap.size w w')) (hp : pokB s H L b = true) (w : World) (hw : Tabs w) :
    Calls Tryd.prog 45 #[.agg #[.bool s, .int .i64 H.toInt, .int .i64 L.toInt, .int .i64 b]] w fun e w' => e = .returned (.string ⟨(T ++ [47] ++ D).toArray⟩) ∧ Below w.heap.size w w' := by
  have hf : ∀ w : World, Tabs w → Calls Tryd.prog 61 #[.int .i64 b] w fun e w' => e = .returned (.string ⟨D.toArray⟩) ∧ Below w.heap.size w w' := fun w h => by rw [hd]; exact itoaP b hb0 (by omega) w h
  have HF : Hid (∀ w : World, _) := hf
  have HT : Hid (∀ w : World, _) := ht
  have HW : Hid (Tabs w) := hw
  clear hd ht hb1 hb0 hf hw
  have HP : Hid (∀ w, _) := iPrefixOk_any s H L b
  rw [hp] at HP
  clear hp
  go_enter Tryd.func45, Tryd.ntmps45
  go_wp2_with fail
  refine (HP.out _).mono ?_
  rintro e w1 ⟨rfl, hb1⟩
  have hz1 := hb1.size
  try simp at hz1
  have f10 : w.heap.size < w1.heap.size := by omega
  refine olds_k (w.heap.size + 1) hb1 ?_ ?_
  · first | omega | (simp; omega) | (simp; done)
  intro hc1 hf1
  go_wp2_with fail
  go_region_with (first | (go_at_call 11; refine (HT.out _ ?_).mono ?_; (focus (refine HW.out.below ?_; repeat (first | with_reducible exact Below.refl _ _ | (with_reducible refine Below.drew ?_) | (with_reducible refine Below.alloc ?_ ?_ _; rotate_left; (focus (first | omega | (simp; omega) | (simp; done)))) | (with_reducible refine Below.setCell ?_ ?_ _; rotate_left; (focus (first | omega | (simp; omega) | (simp; done)))) | (with_reducible refine Below.trans ?_ (hb1.mono ?_); rotate_left; (focus (first | omega | (simp; omega) | (simp; done))))))); rintro e w2 ⟨rfl, hb2⟩; have hz2 := hb2.size; (try simp at hz2); (first | (refine ltk (w.heap.size) (w2.heap.size) ?_ ?_; (focus omega); intro f20) | skip); (refine olds_k (w.heap.size + 1) hb2 ?_ ?_; (focus (first | omega | (simp; omega) | (simp; done))); intro hc2 hf2)) | (go_at_call 61; refine (HF.out _ ?_).mono ?_; (focus (refine HW.out.below ?_; repeat (first | with_reducible exact Below.refl _ _ | (with_reducible refine Below.drew ?_) | (with_reducible refine Below.alloc ?_ ?_ _; rotate_left; (focus (first | omega | (simp; omega) | (simp; done)))) | (with_reducible refine Below.setCell ?_ ?_ _; rotate_left; (focus (first | omega | (simp; omega) | (simp; done)))) | (with_reducible refine Below.trans ?_ (hb2.mono ?_); rotate_left; (focus (first | omega | (simp; omega) | (simp; done)))) | (with_reducible refine Below.trans ?_ (hb1.mono ?_); rotate_left; (focus (first | omega | (simp; omega) | (simp; done))))))); rintro e w3 ⟨rfl, hb3⟩; have hz3 := hb3.size; (try simp at hz3); (first | (refine ltk (w.heap.size) (w3.heap.size) ?_ ?_; (focus omega); intro f30) | skip); (refine olds_k (w.heap.size + 1) hb3 ?_ ?_; (focus (first | omega | (simp; omega) | (simp; done))); intro hc3 hf3)))
  all_goals
    go_wp2_with fail
    go_ret
    refine ⟨ret_ba (ba3 T [47] D), ?_⟩
    repeat (first | with_reducible exact Below.refl _ _ | (with_reducible refine Below.drew ?_) | (with_reducible refine Below.alloc ?_ ?_ _; rotate_left; (focus (first | omega | (simp; omega) | (simp; done)))) | (with_reducible refine Below.setCell ?_ ?_ _; rotate_left; (focus (first | omega | (simp; omega) | (simp; done)))) | (with_reducible refine Below.trans ?_ (hb3.mono ?_); rotate_left; (focus (first | omega | (simp; omega) | (simp; done)))) | (with_reducible refine Below.trans ?_ (hb2.mono ?_); rotate_left; (focus (first | omega | (simp; omega) | (simp; done)))) | (with_reducible refine Below.trans ?_ (hb1.mono ?_); rotate_left; (focus (first | omega | (simp; omega) | (simp; done)))))

end Go.Proofs.YtofnnpjadehgmaaDoor
