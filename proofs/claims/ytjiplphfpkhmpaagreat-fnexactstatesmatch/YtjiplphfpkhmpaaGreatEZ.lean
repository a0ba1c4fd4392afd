/-
  The size of all that a cluster holds.
-/
import Derived.Test.YtjiplphfpkhmpaaGreatEB
namespace Go.Proofs.YtjiplphfpkhmpaaGreat
open Go.ChangeShapes Go.WideShapes Go.RowKit

set_option maxRecDepth 10000 in
set_option maxHeartbeats 2000000 in
theorem szIntS_c : SzC Tryz.prog cIntS v1 30 := by
  rintro vs xs w L ⟨o, c, rfl, hl, hr⟩ h0 h1
  show Calls _ _ #[.slice o xs.length c, .int .i64 L] w _
  have e : cIntS.tot xs = xs.length := by
    show (xs.length : Int) + sumT cInt.tot xs = _
    rw [sumT_zero (f := cInt.tot) (fun _ => rfl), Int.add_zero]
  rw [e]
  refine calls_of_wp Tryz.func30 rfl ?_
  exact row_sz0 (N := 12) rfl (by decide) rfl (by kernel_rfl) w o xs.length c L hl h0 h1
set_option maxRecDepth 10000 in
set_option maxHeartbeats 2000000 in
theorem szGroup_c : SzC Tryz.prog cGroup vA 10 := by
  intro vs x w L hr p0 p1
  obtain ⟨⟨_, x0⟩, x1⟩ := x
  obtain ⟨_, u1, rfl, ⟨_, u0, rfl, rfl, h0⟩, h1⟩ := hr
  have l0 : u0.length = 1 := cIntS.len h0
  have e1 : (cTwo (cTwo cNil cIntS) cIntS).tot (((), x0), x1) ≤ cGroup.tot (((), x0), x1) := Int.le_refl _
  have e0 : (cTwo cNil cIntS).tot ((), x0) ≤ cGroup.tot (((), x0), x1) := Int.le_trans tot_le e1
  refine calls_of_wp Tryz.func10 rfl ?_
  refine z_head (us := ([] ++ u0) ++ u1) (N := 18) rfl rfl (by decide) p0 ?_
  intro a W S
  refine z_call (n := 1) (off := 0) (pre := []) (post := u1) S (by decide) (by kernel_rfl) cIntS x0 v1 rfl (Or.inr ⟨rfl, ⟨by kernel_rfl, by kernel_rfl⟩, rfl⟩) ⟨_, Tryz.func30, by kernel_rfl, by kernel_rfl⟩ szIntS_c p1 h0 (by simp only [List.nil_append]) rfl ?_ ?_
  · intro hn a V q1 q2 q3 q4
    exact z_ret rfl q3 q2 ⟨congrArg (fun z => Ending.returned (.int .i64 z)) (szL_no (fun hq => hn (Int.le_trans e0 hq))).symm, q4⟩
  intro a W S
  refine z_call (n := 1) (off := 1) (pre := [] ++ u0) (post := []) S (by decide) (by kernel_rfl) cIntS x1 v1 rfl (Or.inr ⟨rfl, ⟨by kernel_rfl, by kernel_rfl⟩, rfl⟩) ⟨_, Tryz.func30, by kernel_rfl, by kernel_rfl⟩ szIntS_c p1 h1 (by simp only [List.nil_append, List.append_nil]) (by simp only [List.length_append, List.length_nil, l0]) ?_ ?_
  · intro hn a V q1 q2 q3 q4
    exact z_ret rfl q3 q2 ⟨congrArg (fun z => Ending.returned (.int .i64 z)) (szL_no (fun hq => hn (Int.le_trans e1 hq))).symm, q4⟩
  intro a W S
  exact z_tail S (by decide) rfl (fun hq hb => ⟨congrArg (fun z => Ending.returned (.int .i64 z)) (szL_yes hq).symm, hb⟩)
set_option maxRecDepth 10000 in
set_option maxHeartbeats 2000000 in
theorem szByteS_c : SzC Tryz.prog cByteS v1 48 := by
  rintro vs xs w L ⟨o, c, rfl, hl, hr⟩ h0 h1
  show Calls _ _ #[.slice o xs.length c, .int .i64 L] w _
  have e : cByteS.tot xs = xs.length := by
    show (xs.length : Int) + sumT cByte.tot xs = _
    rw [sumT_zero (f := cByte.tot) (fun _ => rfl), Int.add_zero]
  rw [e]
  refine calls_of_wp Tryz.func48 rfl ?_
  exact row_sz0 (N := 12) rfl (by decide) rfl (by kernel_rfl) w o xs.length c L hl h0 h1
set_option maxRecDepth 10000 in
set_option maxHeartbeats 2000000 in
theorem szEntry_c : SzC Tryz.prog cEntry vA 32 := by
  intro vs x w L hr p0 p1
  obtain ⟨⟨⟨_, x0⟩, x1⟩, x2⟩ := x
  obtain ⟨_, u2, rfl, ⟨_, u1, rfl, ⟨_, u0, rfl, rfl, h0⟩, h1⟩, h2⟩ := hr
  have l0 : u0.length = 1 := cInt.len h0
  have l1 : u1.length = 1 := cInt.len h1
  have e2 : (cTwo (cTwo (cTwo cNil cInt) cInt) cByteS).tot ((((), x0), x1), x2) ≤ cEntry.tot ((((), x0), x1), x2) := Int.le_refl _
  refine calls_of_wp Tryz.func32 rfl ?_
  refine z_head (us := (([] ++ u0) ++ u1) ++ u2) (N := 12) rfl rfl (by decide) p0 ?_
  intro a W S
  replace S := z_skip (T := cInt) (b := x0) S rfl
  replace S := z_skip (T := cInt) (b := x1) S rfl
  refine z_call (n := 1) (off := 2) (pre := ([] ++ u0) ++ u1) (post := []) S (by decide) (by kernel_rfl) cByteS x2 v1 rfl (Or.inr ⟨rfl, ⟨by kernel_rfl, by kernel_rfl⟩, rfl⟩) ⟨_, Tryz.func48, by kernel_rfl, by kernel_rfl⟩ szByteS_c p1 h2 (by simp only [List.append_assoc, List.nil_append, List.append_nil]) (by simp only [List.length_append, List.length_nil, l0, l1]) ?_ ?_
  · intro hn a V q1 q2 q3 q4
    exact z_ret rfl q3 q2 ⟨congrArg (fun z => Ending.returned (.int .i64 z)) (szL_no (fun hq => hn (Int.le_trans e2 hq))).symm, q4⟩
  intro a W S
  exact z_tail S (by decide) rfl (fun hq hb => ⟨congrArg (fun z => Ending.returned (.int .i64 z)) (szL_yes hq).symm, hb⟩)
set_option maxRecDepth 10000 in
set_option maxHeartbeats 2000000 in
theorem szEntryS_c : SzC Tryz.prog cEntryS v1 13 := by
  rintro vs xs w L ⟨o, c, rfl, hl, hr⟩ h0 h1
  show Calls _ _ #[.slice o xs.length c, .int .i64 L] w _
  refine calls_of_wp Tryz.func13 rfl ?_
  exact row_sz (T := cEntry) (N := 27) rfl (by decide) rfl (by kernel_rfl) w o xs.length c xs rfl L hl h0 h1 (fun i a W hi h Q q r => body_szC (eA := 111) (by decide) (by kernel_rfl) (by kernel_rfl) rfl ⟨by kernel_rfl, by kernel_rfl⟩ ⟨_, Tryz.func32, by kernel_rfl, by kernel_rfl⟩ szEntry_c rfl hr h1 i a W hi h Q q r)
set_option maxRecDepth 10000 in
set_option maxHeartbeats 2000000 in
theorem szKeep_c : SzC Tryz.prog cKeep vA 58 := by
  intro vs x w L hr p0 p1
  obtain ⟨⟨⟨⟨⟨⟨⟨_, x0⟩, x1⟩, x2⟩, x3⟩, x4⟩, x5⟩, x6⟩ := x
  obtain ⟨_, u6, rfl, ⟨_, u5, rfl, ⟨_, u4, rfl, ⟨_, u3, rfl, ⟨_, u2, rfl, ⟨_, u1, rfl, ⟨_, u0, rfl, rfl, h0⟩, h1⟩, h2⟩, h3⟩, h4⟩, h5⟩, h6⟩ := hr
  have l0 : u0.length = 1 := cInt.len h0
  have l1 : u1.length = 1 := cInt.len h1
  have l2 : u2.length = 1 := cInt.len h2
  have l3 : u3.length = 1 := cInt.len h3
  have l4 : u4.length = 2 := cGroup.len h4
  have l5 : u5.length = 1 := cByteS.len h5
  have e6 : (cTwo (cTwo (cTwo (cTwo (cTwo (cTwo (cTwo cNil cInt) cInt) cInt) cInt) cGroup) cByteS) cEntryS).tot ((((((((), x0), x1), x2), x3), x4), x5), x6) ≤ cKeep.tot ((((((((), x0), x1), x2), x3), x4), x5), x6) := Int.le_refl _
  have e5 : (cTwo (cTwo (cTwo (cTwo (cTwo (cTwo cNil cInt) cInt) cInt) cInt) cGroup) cByteS).tot (((((((), x0), x1), x2), x3), x4), x5) ≤ cKeep.tot ((((((((), x0), x1), x2), x3), x4), x5), x6) := Int.le_trans tot_le e6
  have e4 : (cTwo (cTwo (cTwo (cTwo (cTwo cNil cInt) cInt) cInt) cInt) cGroup).tot ((((((), x0), x1), x2), x3), x4) ≤ cKeep.tot ((((((((), x0), x1), x2), x3), x4), x5), x6) := Int.le_trans tot_le e5
  refine calls_of_wp Tryz.func58 rfl ?_
  refine z_head (us := (((((([] ++ u0) ++ u1) ++ u2) ++ u3) ++ u4) ++ u5) ++ u6) (N := 24) rfl rfl (by decide) p0 ?_
  intro a W S
  replace S := z_skip (T := cInt) (b := x0) S rfl
  replace S := z_skip (T := cInt) (b := x1) S rfl
  replace S := z_skip (T := cInt) (b := x2) S rfl
  replace S := z_skip (T := cInt) (b := x3) S rfl
  refine z_call (n := 2) (off := 4) (pre := ((([] ++ u0) ++ u1) ++ u2) ++ u3) (post := u5 ++ (u6)) S (by decide) (by kernel_rfl) cGroup x4 vA rfl (Or.inl ⟨rfl, ⟨by kernel_rfl, by kernel_rfl⟩⟩) ⟨_, Tryz.func10, by kernel_rfl, by kernel_rfl⟩ szGroup_c p1 h4 (by simp only [List.append_assoc, List.nil_append]) (by simp only [List.length_append, List.length_nil, l0, l1, l2, l3]) ?_ ?_
  · intro hn a V q1 q2 q3 q4
    exact z_ret rfl q3 q2 ⟨congrArg (fun z => Ending.returned (.int .i64 z)) (szL_no (fun hq => hn (Int.le_trans e4 hq))).symm, q4⟩
  intro a W S
  refine z_call (n := 1) (off := 6) (pre := (((([] ++ u0) ++ u1) ++ u2) ++ u3) ++ u4) (post := u6) S (by decide) (by kernel_rfl) cByteS x5 v1 rfl (Or.inr ⟨rfl, ⟨by kernel_rfl, by kernel_rfl⟩, rfl⟩) ⟨_, Tryz.func48, by kernel_rfl, by kernel_rfl⟩ szByteS_c p1 h5 (by simp only [List.append_assoc, List.nil_append]) (by simp only [List.length_append, List.length_nil, l0, l1, l2, l3, l4]) ?_ ?_
  · intro hn a V q1 q2 q3 q4
    exact z_ret rfl q3 q2 ⟨congrArg (fun z => Ending.returned (.int .i64 z)) (szL_no (fun hq => hn (Int.le_trans e5 hq))).symm, q4⟩
  intro a W S
  refine z_call (n := 1) (off := 7) (pre := ((((([] ++ u0) ++ u1) ++ u2) ++ u3) ++ u4) ++ u5) (post := []) S (by decide) (by kernel_rfl) cEntryS x6 v1 rfl (Or.inr ⟨rfl, ⟨by kernel_rfl, by kernel_rfl⟩, rfl⟩) ⟨_, Tryz.func13, by kernel_rfl, by kernel_rfl⟩ szEntryS_c p1 h6 (by simp only [List.append_assoc, List.nil_append, List.append_nil]) (by simp only [List.length_append, List.length_nil, l0, l1, l2, l3, l4, l5]) ?_ ?_
  · intro hn a V q1 q2 q3 q4
    exact z_ret rfl q3 q2 ⟨congrArg (fun z => Ending.returned (.int .i64 z)) (szL_no (fun hq => hn (Int.le_trans e6 hq))).symm, q4⟩
  intro a W S
  exact z_tail S (by decide) rfl (fun hq hb => ⟨congrArg (fun z => Ending.returned (.int .i64 z)) (szL_yes hq).symm, hb⟩)
set_option maxRecDepth 10000 in
set_option maxHeartbeats 2000000 in
theorem szServer_c : SzC Tryz.prog cServer vA 45 := by
  intro vs x w L hr p0 p1
  obtain ⟨⟨⟨⟨⟨⟨⟨⟨⟨⟨_, x0⟩, x1⟩, x2⟩, x3⟩, x4⟩, x5⟩, x6⟩, x7⟩, x8⟩, x9⟩ := x
  obtain ⟨_, u9, rfl, ⟨_, u8, rfl, ⟨_, u7, rfl, ⟨_, u6, rfl, ⟨_, u5, rfl, ⟨_, u4, rfl, ⟨_, u3, rfl, ⟨_, u2, rfl, ⟨_, u1, rfl, ⟨_, u0, rfl, rfl, h0⟩, h1⟩, h2⟩, h3⟩, h4⟩, h5⟩, h6⟩, h7⟩, h8⟩, h9⟩ := hr
  have l0 : u0.length = 1 := cInt.len h0
  have l1 : u1.length = 8 := cKeep.len h1
  have l2 : u2.length = 1 := cInt.len h2
  have l3 : u3.length = 1 := cInt.len h3
  have l4 : u4.length = 1 := cInt.len h4
  have e9 : (cTwo (cTwo (cTwo (cTwo (cTwo (cTwo (cTwo (cTwo (cTwo (cTwo cNil cInt) cKeep) cInt) cInt) cInt) cIntS) cIntA8) cIntA8) cInt) cInt).tot (((((((((((), x0), x1), x2), x3), x4), x5), x6), x7), x8), x9) ≤ cServer.tot (((((((((((), x0), x1), x2), x3), x4), x5), x6), x7), x8), x9) := Int.le_refl _
  have e8 : (cTwo (cTwo (cTwo (cTwo (cTwo (cTwo (cTwo (cTwo (cTwo cNil cInt) cKeep) cInt) cInt) cInt) cIntS) cIntA8) cIntA8) cInt).tot ((((((((((), x0), x1), x2), x3), x4), x5), x6), x7), x8) ≤ cServer.tot (((((((((((), x0), x1), x2), x3), x4), x5), x6), x7), x8), x9) := Int.le_trans tot_le e9
  have e7 : (cTwo (cTwo (cTwo (cTwo (cTwo (cTwo (cTwo (cTwo cNil cInt) cKeep) cInt) cInt) cInt) cIntS) cIntA8) cIntA8).tot (((((((((), x0), x1), x2), x3), x4), x5), x6), x7) ≤ cServer.tot (((((((((((), x0), x1), x2), x3), x4), x5), x6), x7), x8), x9) := Int.le_trans tot_le e8
  have e6 : (cTwo (cTwo (cTwo (cTwo (cTwo (cTwo (cTwo cNil cInt) cKeep) cInt) cInt) cInt) cIntS) cIntA8).tot ((((((((), x0), x1), x2), x3), x4), x5), x6) ≤ cServer.tot (((((((((((), x0), x1), x2), x3), x4), x5), x6), x7), x8), x9) := Int.le_trans tot_le e7
  have e5 : (cTwo (cTwo (cTwo (cTwo (cTwo (cTwo cNil cInt) cKeep) cInt) cInt) cInt) cIntS).tot (((((((), x0), x1), x2), x3), x4), x5) ≤ cServer.tot (((((((((((), x0), x1), x2), x3), x4), x5), x6), x7), x8), x9) := Int.le_trans tot_le e6
  have e4 : (cTwo (cTwo (cTwo (cTwo (cTwo cNil cInt) cKeep) cInt) cInt) cInt).tot ((((((), x0), x1), x2), x3), x4) ≤ cServer.tot (((((((((((), x0), x1), x2), x3), x4), x5), x6), x7), x8), x9) := Int.le_trans tot_le e5
  have e3 : (cTwo (cTwo (cTwo (cTwo cNil cInt) cKeep) cInt) cInt).tot (((((), x0), x1), x2), x3) ≤ cServer.tot (((((((((((), x0), x1), x2), x3), x4), x5), x6), x7), x8), x9) := Int.le_trans tot_le e4
  have e2 : (cTwo (cTwo (cTwo cNil cInt) cKeep) cInt).tot ((((), x0), x1), x2) ≤ cServer.tot (((((((((((), x0), x1), x2), x3), x4), x5), x6), x7), x8), x9) := Int.le_trans tot_le e3
  have e1 : (cTwo (cTwo cNil cInt) cKeep).tot (((), x0), x1) ≤ cServer.tot (((((((((((), x0), x1), x2), x3), x4), x5), x6), x7), x8), x9) := Int.le_trans tot_le e2
  refine calls_of_wp Tryz.func45 rfl ?_
  refine z_head (us := ((((((((([] ++ u0) ++ u1) ++ u2) ++ u3) ++ u4) ++ u5) ++ u6) ++ u7) ++ u8) ++ u9) (N := 18) rfl rfl (by decide) p0 ?_
  intro a W S
  replace S := z_skip (T := cInt) (b := x0) S rfl
  refine z_call (n := 8) (off := 1) (pre := [] ++ u0) (post := u2 ++ (u3 ++ (u4 ++ (u5 ++ (u6 ++ (u7 ++ (u8 ++ (u9)))))))) S (by decide) (by kernel_rfl) cKeep x1 vA rfl (Or.inl ⟨rfl, ⟨by kernel_rfl, by kernel_rfl⟩⟩) ⟨_, Tryz.func58, by kernel_rfl, by kernel_rfl⟩ szKeep_c p1 h1 (by simp only [List.append_assoc, List.nil_append]) (by simp only [List.length_append, List.length_nil, l0]) ?_ ?_
  · intro hn a V q1 q2 q3 q4
    exact z_ret rfl q3 q2 ⟨congrArg (fun z => Ending.returned (.int .i64 z)) (szL_no (fun hq => hn (Int.le_trans e1 hq))).symm, q4⟩
  intro a W S
  replace S := z_skip (T := cInt) (b := x2) S rfl
  replace S := z_skip (T := cInt) (b := x3) S rfl
  replace S := z_skip (T := cInt) (b := x4) S rfl
  refine z_call (n := 1) (off := 12) (pre := (((([] ++ u0) ++ u1) ++ u2) ++ u3) ++ u4) (post := u6 ++ (u7 ++ (u8 ++ (u9)))) S (by decide) (by kernel_rfl) cIntS x5 v1 rfl (Or.inr ⟨rfl, ⟨by kernel_rfl, by kernel_rfl⟩, rfl⟩) ⟨_, Tryz.func30, by kernel_rfl, by kernel_rfl⟩ szIntS_c p1 h5 (by simp only [List.append_assoc, List.nil_append]) (by simp only [List.length_append, List.length_nil, l0, l1, l2, l3, l4]) ?_ ?_
  · intro hn a V q1 q2 q3 q4
    exact z_ret rfl q3 q2 ⟨congrArg (fun z => Ending.returned (.int .i64 z)) (szL_no (fun hq => hn (Int.le_trans e5 hq))).symm, q4⟩
  intro a W S
  replace S := z_skip (T := cIntA8) (b := x6) S rfl
  replace S := z_skip (T := cIntA8) (b := x7) S rfl
  replace S := z_skip (T := cInt) (b := x8) S rfl
  replace S := z_skip (T := cInt) (b := x9) S rfl
  exact z_tail S (by decide) rfl (fun hq hb => ⟨congrArg (fun z => Ending.returned (.int .i64 z)) (szL_yes hq).symm, hb⟩)
set_option maxRecDepth 10000 in
set_option maxHeartbeats 2000000 in
theorem szPoolS_c : SzC Tryz.prog cPoolS v1 75 := by
  rintro vs xs w L ⟨o, c, rfl, hl, hr⟩ h0 h1
  show Calls _ _ #[.slice o xs.length c, .int .i64 L] w _
  have e : cPoolS.tot xs = xs.length := by
    show (xs.length : Int) + sumT cPool.tot xs = _
    rw [sumT_zero (f := cPool.tot) (fun _ => rfl), Int.add_zero]
  rw [e]
  refine calls_of_wp Tryz.func75 rfl ?_
  exact row_sz0 (N := 12) rfl (by decide) rfl (by kernel_rfl) w o xs.length c L hl h0 h1
set_option maxRecDepth 10000 in
set_option maxHeartbeats 2000000 in
theorem szBlock_c : SzC Tryz.prog cBlock vA 91 := by
  intro vs x w L hr p0 p1
  obtain ⟨⟨_, x0⟩, x1⟩ := x
  obtain ⟨_, u1, rfl, ⟨_, u0, rfl, rfl, h0⟩, h1⟩ := hr
  have l0 : u0.length = 4 := cPrefix.len h0
  have e1 : (cTwo (cTwo cNil cPrefix) cStr).tot (((), x0), x1) ≤ cBlock.tot (((), x0), x1) := Int.le_refl _
  refine calls_of_wp Tryz.func91 rfl ?_
  refine z_head (us := ([] ++ u0) ++ u1) (N := 13) rfl rfl (by decide) p0 ?_
  intro a W S
  replace S := z_skip (T := cPrefix) (b := x0) S rfl
  refine z_str (off := 4) (pre := [] ++ u0) (post := []) S (by decide) (by kernel_rfl) (by kernel_rfl) ⟨by kernel_rfl, by kernel_rfl⟩ x1 p1 h1 (by simp only [List.nil_append, List.append_nil]) (by simp only [List.length_append, List.length_nil, l0]) ?_ ?_
  · intro hn a V q1 q2 q3 q4
    exact z_ret rfl q3 q2 ⟨congrArg (fun z => Ending.returned (.int .i64 z)) (szL_no (fun hq => hn (Int.le_trans e1 hq))).symm, q4⟩
  intro a W S
  exact z_tail S (by decide) rfl (fun hq hb => ⟨congrArg (fun z => Ending.returned (.int .i64 z)) (szL_yes hq).symm, hb⟩)
set_option maxRecDepth 10000 in
set_option maxHeartbeats 2000000 in
theorem szBlockS_c : SzC Tryz.prog cBlockS v1 76 := by
  rintro vs xs w L ⟨o, c, rfl, hl, hr⟩ h0 h1
  show Calls _ _ #[.slice o xs.length c, .int .i64 L] w _
  refine calls_of_wp Tryz.func76 rfl ?_
  exact row_sz (T := cBlock) (N := 27) rfl (by decide) rfl (by kernel_rfl) w o xs.length c xs rfl L hl h0 h1 (fun i a W hi h Q q r => body_szC (eA := 185) (by decide) (by kernel_rfl) (by kernel_rfl) rfl ⟨by kernel_rfl, by kernel_rfl⟩ ⟨_, Tryz.func91, by kernel_rfl, by kernel_rfl⟩ szBlock_c rfl hr h1 i a W hi h Q q r)
set_option maxRecDepth 10000 in
set_option maxHeartbeats 2000000 in
theorem szPlan_c : SzC Tryz.prog cPlan vA 59 := by
  intro vs x w L hr p0 p1
  obtain ⟨⟨_, x0⟩, x1⟩ := x
  obtain ⟨_, u1, rfl, ⟨_, u0, rfl, rfl, h0⟩, h1⟩ := hr
  have l0 : u0.length = 1 := cPoolS.len h0
  have e1 : (cTwo (cTwo cNil cPoolS) cBlockS).tot (((), x0), x1) ≤ cPlan.tot (((), x0), x1) := Int.le_refl _
  have e0 : (cTwo cNil cPoolS).tot ((), x0) ≤ cPlan.tot (((), x0), x1) := Int.le_trans tot_le e1
  refine calls_of_wp Tryz.func59 rfl ?_
  refine z_head (us := ([] ++ u0) ++ u1) (N := 18) rfl rfl (by decide) p0 ?_
  intro a W S
  refine z_call (n := 1) (off := 0) (pre := []) (post := u1) S (by decide) (by kernel_rfl) cPoolS x0 v1 rfl (Or.inr ⟨rfl, ⟨by kernel_rfl, by kernel_rfl⟩, rfl⟩) ⟨_, Tryz.func75, by kernel_rfl, by kernel_rfl⟩ szPoolS_c p1 h0 (by simp only [List.nil_append]) rfl ?_ ?_
  · intro hn a V q1 q2 q3 q4
    exact z_ret rfl q3 q2 ⟨congrArg (fun z => Ending.returned (.int .i64 z)) (szL_no (fun hq => hn (Int.le_trans e0 hq))).symm, q4⟩
  intro a W S
  refine z_call (n := 1) (off := 1) (pre := [] ++ u0) (post := []) S (by decide) (by kernel_rfl) cBlockS x1 v1 rfl (Or.inr ⟨rfl, ⟨by kernel_rfl, by kernel_rfl⟩, rfl⟩) ⟨_, Tryz.func76, by kernel_rfl, by kernel_rfl⟩ szBlockS_c p1 h1 (by simp only [List.nil_append, List.append_nil]) (by simp only [List.length_append, List.length_nil, l0]) ?_ ?_
  · intro hn a V q1 q2 q3 q4
    exact z_ret rfl q3 q2 ⟨congrArg (fun z => Ending.returned (.int .i64 z)) (szL_no (fun hq => hn (Int.le_trans e1 hq))).symm, q4⟩
  intro a W S
  exact z_tail S (by decide) rfl (fun hq hb => ⟨congrArg (fun z => Ending.returned (.int .i64 z)) (szL_yes hq).symm, hb⟩)
set_option maxRecDepth 10000 in
set_option maxHeartbeats 2000000 in
theorem szLease_c : SzC Tryz.prog cLease vA 92 := by
  intro vs x w L hr p0 p1
  obtain ⟨⟨⟨⟨_, x0⟩, x1⟩, x2⟩, x3⟩ := x
  obtain ⟨_, u3, rfl, ⟨_, u2, rfl, ⟨_, u1, rfl, ⟨_, u0, rfl, rfl, h0⟩, h1⟩, h2⟩, h3⟩ := hr
  have l0 : u0.length = 3 := cAddr.len h0
  have e3 : (cTwo (cTwo (cTwo (cTwo cNil cAddr) cStr) cInt) cInt).tot (((((), x0), x1), x2), x3) ≤ cLease.tot (((((), x0), x1), x2), x3) := Int.le_refl _
  have e2 : (cTwo (cTwo (cTwo cNil cAddr) cStr) cInt).tot ((((), x0), x1), x2) ≤ cLease.tot (((((), x0), x1), x2), x3) := Int.le_trans tot_le e3
  have e1 : (cTwo (cTwo cNil cAddr) cStr).tot (((), x0), x1) ≤ cLease.tot (((((), x0), x1), x2), x3) := Int.le_trans tot_le e2
  refine calls_of_wp Tryz.func92 rfl ?_
  refine z_head (us := ((([] ++ u0) ++ u1) ++ u2) ++ u3) (N := 13) rfl rfl (by decide) p0 ?_
  intro a W S
  replace S := z_skip (T := cAddr) (b := x0) S rfl
  refine z_str (off := 3) (pre := [] ++ u0) (post := u2 ++ (u3)) S (by decide) (by kernel_rfl) (by kernel_rfl) ⟨by kernel_rfl, by kernel_rfl⟩ x1 p1 h1 (by simp only [List.append_assoc, List.nil_append]) (by simp only [List.length_append, List.length_nil, l0]) ?_ ?_
  · intro hn a V q1 q2 q3 q4
    exact z_ret rfl q3 q2 ⟨congrArg (fun z => Ending.returned (.int .i64 z)) (szL_no (fun hq => hn (Int.le_trans e1 hq))).symm, q4⟩
  intro a W S
  replace S := z_skip (T := cInt) (b := x2) S rfl
  replace S := z_skip (T := cInt) (b := x3) S rfl
  exact z_tail S (by decide) rfl (fun hq hb => ⟨congrArg (fun z => Ending.returned (.int .i64 z)) (szL_yes hq).symm, hb⟩)
set_option maxRecDepth 10000 in
set_option maxHeartbeats 2000000 in
theorem szLeaseS_c : SzC Tryz.prog cLeaseS v1 77 := by
  rintro vs xs w L ⟨o, c, rfl, hl, hr⟩ h0 h1
  show Calls _ _ #[.slice o xs.length c, .int .i64 L] w _
  refine calls_of_wp Tryz.func77 rfl ?_
  exact row_sz (T := cLease) (N := 27) rfl (by decide) rfl (by kernel_rfl) w o xs.length c xs rfl L hl h0 h1 (fun i a W hi h Q q r => body_szC (eA := 188) (by decide) (by kernel_rfl) (by kernel_rfl) rfl ⟨by kernel_rfl, by kernel_rfl⟩ ⟨_, Tryz.func92, by kernel_rfl, by kernel_rfl⟩ szLease_c rfl hr h1 i a W hi h Q q r)
set_option maxRecDepth 10000 in
set_option maxHeartbeats 2000000 in
theorem szBook_c : SzC Tryz.prog cBook vA 60 := by
  intro vs x w L hr p0 p1
  obtain ⟨⟨⟨_, x0⟩, x1⟩, x2⟩ := x
  obtain ⟨_, u2, rfl, ⟨_, u1, rfl, ⟨_, u0, rfl, rfl, h0⟩, h1⟩, h2⟩ := hr
  have e2 : (cTwo (cTwo (cTwo cNil cLeaseS) cInt) cInt).tot ((((), x0), x1), x2) ≤ cBook.tot ((((), x0), x1), x2) := Int.le_refl _
  have e1 : (cTwo (cTwo cNil cLeaseS) cInt).tot (((), x0), x1) ≤ cBook.tot ((((), x0), x1), x2) := Int.le_trans tot_le e2
  have e0 : (cTwo cNil cLeaseS).tot ((), x0) ≤ cBook.tot ((((), x0), x1), x2) := Int.le_trans tot_le e1
  refine calls_of_wp Tryz.func60 rfl ?_
  refine z_head (us := (([] ++ u0) ++ u1) ++ u2) (N := 12) rfl rfl (by decide) p0 ?_
  intro a W S
  refine z_call (n := 1) (off := 0) (pre := []) (post := u1 ++ (u2)) S (by decide) (by kernel_rfl) cLeaseS x0 v1 rfl (Or.inr ⟨rfl, ⟨by kernel_rfl, by kernel_rfl⟩, rfl⟩) ⟨_, Tryz.func77, by kernel_rfl, by kernel_rfl⟩ szLeaseS_c p1 h0 (by simp only [List.append_assoc, List.nil_append]) rfl ?_ ?_
  · intro hn a V q1 q2 q3 q4
    exact z_ret rfl q3 q2 ⟨congrArg (fun z => Ending.returned (.int .i64 z)) (szL_no (fun hq => hn (Int.le_trans e0 hq))).symm, q4⟩
  intro a W S
  replace S := z_skip (T := cInt) (b := x1) S rfl
  replace S := z_skip (T := cInt) (b := x2) S rfl
  exact z_tail S (by decide) rfl (fun hq hb => ⟨congrArg (fun z => Ending.returned (.int .i64 z)) (szL_yes hq).symm, hb⟩)
set_option maxRecDepth 10000 in
set_option maxHeartbeats 2000000 in
theorem szSession_c : SzC Tryz.prog cSession vA 93 := by
  intro vs x w L hr p0 p1
  obtain ⟨⟨⟨⟨_, x0⟩, x1⟩, x2⟩, x3⟩ := x
  obtain ⟨_, u3, rfl, ⟨_, u2, rfl, ⟨_, u1, rfl, ⟨_, u0, rfl, rfl, h0⟩, h1⟩, h2⟩, h3⟩ := hr
  have l0 : u0.length = 1 := cInt.len h0
  have l1 : u1.length = 1 := cInt.len h1
  have e3 : (cTwo (cTwo (cTwo (cTwo cNil cInt) cInt) cStr) cInt).tot (((((), x0), x1), x2), x3) ≤ cSession.tot (((((), x0), x1), x2), x3) := Int.le_refl _
  have e2 : (cTwo (cTwo (cTwo cNil cInt) cInt) cStr).tot ((((), x0), x1), x2) ≤ cSession.tot (((((), x0), x1), x2), x3) := Int.le_trans tot_le e3
  refine calls_of_wp Tryz.func93 rfl ?_
  refine z_head (us := ((([] ++ u0) ++ u1) ++ u2) ++ u3) (N := 13) rfl rfl (by decide) p0 ?_
  intro a W S
  replace S := z_skip (T := cInt) (b := x0) S rfl
  replace S := z_skip (T := cInt) (b := x1) S rfl
  refine z_str (off := 2) (pre := ([] ++ u0) ++ u1) (post := u3) S (by decide) (by kernel_rfl) (by kernel_rfl) ⟨by kernel_rfl, by kernel_rfl⟩ x2 p1 h2 (by simp only [List.append_assoc, List.nil_append]) (by simp only [List.length_append, List.length_nil, l0, l1]) ?_ ?_
  · intro hn a V q1 q2 q3 q4
    exact z_ret rfl q3 q2 ⟨congrArg (fun z => Ending.returned (.int .i64 z)) (szL_no (fun hq => hn (Int.le_trans e2 hq))).symm, q4⟩
  intro a W S
  replace S := z_skip (T := cInt) (b := x3) S rfl
  exact z_tail S (by decide) rfl (fun hq hb => ⟨congrArg (fun z => Ending.returned (.int .i64 z)) (szL_yes hq).symm, hb⟩)
set_option maxRecDepth 10000 in
set_option maxHeartbeats 2000000 in
theorem szSessionS_c : SzC Tryz.prog cSessionS v1 78 := by
  rintro vs xs w L ⟨o, c, rfl, hl, hr⟩ h0 h1
  show Calls _ _ #[.slice o xs.length c, .int .i64 L] w _
  refine calls_of_wp Tryz.func78 rfl ?_
  exact row_sz (T := cSession) (N := 27) rfl (by decide) rfl (by kernel_rfl) w o xs.length c xs rfl L hl h0 h1 (fun i a W hi h Q q r => body_szC (eA := 190) (by decide) (by kernel_rfl) (by kernel_rfl) rfl ⟨by kernel_rfl, by kernel_rfl⟩ ⟨_, Tryz.func93, by kernel_rfl, by kernel_rfl⟩ szSession_c rfl hr h1 i a W hi h Q q r)
set_option maxRecDepth 10000 in
set_option maxHeartbeats 2000000 in
theorem szDesk_c : SzC Tryz.prog cDesk vA 61 := by
  intro vs x w L hr p0 p1
  obtain ⟨⟨_, x0⟩, x1⟩ := x
  obtain ⟨_, u1, rfl, ⟨_, u0, rfl, rfl, h0⟩, h1⟩ := hr
  have e1 : (cTwo (cTwo cNil cSessionS) cInt).tot (((), x0), x1) ≤ cDesk.tot (((), x0), x1) := Int.le_refl _
  have e0 : (cTwo cNil cSessionS).tot ((), x0) ≤ cDesk.tot (((), x0), x1) := Int.le_trans tot_le e1
  refine calls_of_wp Tryz.func61 rfl ?_
  refine z_head (us := ([] ++ u0) ++ u1) (N := 12) rfl rfl (by decide) p0 ?_
  intro a W S
  refine z_call (n := 1) (off := 0) (pre := []) (post := u1) S (by decide) (by kernel_rfl) cSessionS x0 v1 rfl (Or.inr ⟨rfl, ⟨by kernel_rfl, by kernel_rfl⟩, rfl⟩) ⟨_, Tryz.func78, by kernel_rfl, by kernel_rfl⟩ szSessionS_c p1 h0 (by simp only [List.nil_append]) rfl ?_ ?_
  · intro hn a V q1 q2 q3 q4
    exact z_ret rfl q3 q2 ⟨congrArg (fun z => Ending.returned (.int .i64 z)) (szL_no (fun hq => hn (Int.le_trans e0 hq))).symm, q4⟩
  intro a W S
  replace S := z_skip (T := cInt) (b := x1) S rfl
  exact z_tail S (by decide) rfl (fun hq hb => ⟨congrArg (fun z => Ending.returned (.int .i64 z)) (szL_yes hq).symm, hb⟩)
set_option maxRecDepth 10000 in
set_option maxHeartbeats 2000000 in
theorem szState_c : SzC Tryz.prog cState vA 46 := by
  intro vs x w L hr p0 p1
  obtain ⟨⟨⟨⟨_, x0⟩, x1⟩, x2⟩, x3⟩ := x
  obtain ⟨_, u3, rfl, ⟨_, u2, rfl, ⟨_, u1, rfl, ⟨_, u0, rfl, rfl, h0⟩, h1⟩, h2⟩, h3⟩ := hr
  have l0 : u0.length = 2 := cPlan.len h0
  have l1 : u1.length = 3 := cBook.len h1
  have e3 : (cTwo (cTwo (cTwo (cTwo cNil cPlan) cBook) cDesk) cInt).tot (((((), x0), x1), x2), x3) ≤ cState.tot (((((), x0), x1), x2), x3) := Int.le_refl _
  have e2 : (cTwo (cTwo (cTwo cNil cPlan) cBook) cDesk).tot ((((), x0), x1), x2) ≤ cState.tot (((((), x0), x1), x2), x3) := Int.le_trans tot_le e3
  have e1 : (cTwo (cTwo cNil cPlan) cBook).tot (((), x0), x1) ≤ cState.tot (((((), x0), x1), x2), x3) := Int.le_trans tot_le e2
  have e0 : (cTwo cNil cPlan).tot ((), x0) ≤ cState.tot (((((), x0), x1), x2), x3) := Int.le_trans tot_le e1
  refine calls_of_wp Tryz.func46 rfl ?_
  refine z_head (us := ((([] ++ u0) ++ u1) ++ u2) ++ u3) (N := 24) rfl rfl (by decide) p0 ?_
  intro a W S
  refine z_call (n := 2) (off := 0) (pre := []) (post := u1 ++ (u2 ++ (u3))) S (by decide) (by kernel_rfl) cPlan x0 vA rfl (Or.inl ⟨rfl, ⟨by kernel_rfl, by kernel_rfl⟩⟩) ⟨_, Tryz.func59, by kernel_rfl, by kernel_rfl⟩ szPlan_c p1 h0 (by simp only [List.append_assoc, List.nil_append]) rfl ?_ ?_
  · intro hn a V q1 q2 q3 q4
    exact z_ret rfl q3 q2 ⟨congrArg (fun z => Ending.returned (.int .i64 z)) (szL_no (fun hq => hn (Int.le_trans e0 hq))).symm, q4⟩
  intro a W S
  refine z_call (n := 3) (off := 2) (pre := [] ++ u0) (post := u2 ++ (u3)) S (by decide) (by kernel_rfl) cBook x1 vA rfl (Or.inl ⟨rfl, ⟨by kernel_rfl, by kernel_rfl⟩⟩) ⟨_, Tryz.func60, by kernel_rfl, by kernel_rfl⟩ szBook_c p1 h1 (by simp only [List.append_assoc, List.nil_append]) (by simp only [List.length_append, List.length_nil, l0]) ?_ ?_
  · intro hn a V q1 q2 q3 q4
    exact z_ret rfl q3 q2 ⟨congrArg (fun z => Ending.returned (.int .i64 z)) (szL_no (fun hq => hn (Int.le_trans e1 hq))).symm, q4⟩
  intro a W S
  refine z_call (n := 2) (off := 5) (pre := ([] ++ u0) ++ u1) (post := u3) S (by decide) (by kernel_rfl) cDesk x2 vA rfl (Or.inl ⟨rfl, ⟨by kernel_rfl, by kernel_rfl⟩⟩) ⟨_, Tryz.func61, by kernel_rfl, by kernel_rfl⟩ szDesk_c p1 h2 (by simp only [List.append_assoc, List.nil_append]) (by simp only [List.length_append, List.length_nil, l0, l1]) ?_ ?_
  · intro hn a V q1 q2 q3 q4
    exact z_ret rfl q3 q2 ⟨congrArg (fun z => Ending.returned (.int .i64 z)) (szL_no (fun hq => hn (Int.le_trans e2 hq))).symm, q4⟩
  intro a W S
  replace S := z_skip (T := cInt) (b := x3) S rfl
  exact z_tail S (by decide) rfl (fun hq hb => ⟨congrArg (fun z => Ending.returned (.int .i64 z)) (szL_yes hq).symm, hb⟩)
set_option maxRecDepth 10000 in
set_option maxHeartbeats 2000000 in
theorem szFile_c : SzC Tryz.prog cFile vA 47 := by
  intro vs x w L hr p0 p1
  obtain ⟨⟨_, x0⟩, x1⟩ := x
  obtain ⟨_, u1, rfl, ⟨_, u0, rfl, rfl, h0⟩, h1⟩ := hr
  have e1 : (cTwo (cTwo cNil cByteS) cInt).tot (((), x0), x1) ≤ cFile.tot (((), x0), x1) := Int.le_refl _
  have e0 : (cTwo cNil cByteS).tot ((), x0) ≤ cFile.tot (((), x0), x1) := Int.le_trans tot_le e1
  refine calls_of_wp Tryz.func47 rfl ?_
  refine z_head (us := ([] ++ u0) ++ u1) (N := 12) rfl rfl (by decide) p0 ?_
  intro a W S
  refine z_call (n := 1) (off := 0) (pre := []) (post := u1) S (by decide) (by kernel_rfl) cByteS x0 v1 rfl (Or.inr ⟨rfl, ⟨by kernel_rfl, by kernel_rfl⟩, rfl⟩) ⟨_, Tryz.func48, by kernel_rfl, by kernel_rfl⟩ szByteS_c p1 h0 (by simp only [List.nil_append]) rfl ?_ ?_
  · intro hn a V q1 q2 q3 q4
    exact z_ret rfl q3 q2 ⟨congrArg (fun z => Ending.returned (.int .i64 z)) (szL_no (fun hq => hn (Int.le_trans e0 hq))).symm, q4⟩
  intro a W S
  replace S := z_skip (T := cInt) (b := x1) S rfl
  exact z_tail S (by decide) rfl (fun hq hb => ⟨congrArg (fun z => Ending.returned (.int .i64 z)) (szL_yes hq).symm, hb⟩)
set_option maxRecDepth 10000 in
set_option maxHeartbeats 2000000 in
theorem szReplica_c : SzC Tryz.prog cReplica vA 29 := by
  intro vs x w L hr p0 p1
  obtain ⟨⟨⟨⟨⟨_, x0⟩, x1⟩, x2⟩, x3⟩, x4⟩ := x
  obtain ⟨_, u4, rfl, ⟨_, u3, rfl, ⟨_, u2, rfl, ⟨_, u1, rfl, ⟨_, u0, rfl, rfl, h0⟩, h1⟩, h2⟩, h3⟩, h4⟩ := hr
  have l0 : u0.length = 31 := cServer.len h0
  have l1 : u1.length = 8 := cState.len h1
  have l2 : u2.length = 1 := cInt.len h2
  have e4 : (cTwo (cTwo (cTwo (cTwo (cTwo cNil cServer) cState) cInt) cFile) cBool).tot ((((((), x0), x1), x2), x3), x4) ≤ cReplica.tot ((((((), x0), x1), x2), x3), x4) := Int.le_refl _
  have e3 : (cTwo (cTwo (cTwo (cTwo cNil cServer) cState) cInt) cFile).tot (((((), x0), x1), x2), x3) ≤ cReplica.tot ((((((), x0), x1), x2), x3), x4) := Int.le_trans tot_le e4
  have e2 : (cTwo (cTwo (cTwo cNil cServer) cState) cInt).tot ((((), x0), x1), x2) ≤ cReplica.tot ((((((), x0), x1), x2), x3), x4) := Int.le_trans tot_le e3
  have e1 : (cTwo (cTwo cNil cServer) cState).tot (((), x0), x1) ≤ cReplica.tot ((((((), x0), x1), x2), x3), x4) := Int.le_trans tot_le e2
  have e0 : (cTwo cNil cServer).tot ((), x0) ≤ cReplica.tot ((((((), x0), x1), x2), x3), x4) := Int.le_trans tot_le e1
  refine calls_of_wp Tryz.func29 rfl ?_
  refine z_head (us := (((([] ++ u0) ++ u1) ++ u2) ++ u3) ++ u4) (N := 24) rfl rfl (by decide) p0 ?_
  intro a W S
  refine z_call (n := 31) (off := 0) (pre := []) (post := u1 ++ (u2 ++ (u3 ++ (u4)))) S (by decide) (by kernel_rfl) cServer x0 vA rfl (Or.inl ⟨rfl, ⟨by kernel_rfl, by kernel_rfl⟩⟩) ⟨_, Tryz.func45, by kernel_rfl, by kernel_rfl⟩ szServer_c p1 h0 (by simp only [List.append_assoc, List.nil_append]) rfl ?_ ?_
  · intro hn a V q1 q2 q3 q4
    exact z_ret rfl q3 q2 ⟨congrArg (fun z => Ending.returned (.int .i64 z)) (szL_no (fun hq => hn (Int.le_trans e0 hq))).symm, q4⟩
  intro a W S
  refine z_call (n := 8) (off := 31) (pre := [] ++ u0) (post := u2 ++ (u3 ++ (u4))) S (by decide) (by kernel_rfl) cState x1 vA rfl (Or.inl ⟨rfl, ⟨by kernel_rfl, by kernel_rfl⟩⟩) ⟨_, Tryz.func46, by kernel_rfl, by kernel_rfl⟩ szState_c p1 h1 (by simp only [List.append_assoc, List.nil_append]) (by simp only [List.length_append, List.length_nil, l0]) ?_ ?_
  · intro hn a V q1 q2 q3 q4
    exact z_ret rfl q3 q2 ⟨congrArg (fun z => Ending.returned (.int .i64 z)) (szL_no (fun hq => hn (Int.le_trans e1 hq))).symm, q4⟩
  intro a W S
  replace S := z_skip (T := cInt) (b := x2) S rfl
  refine z_call (n := 2) (off := 40) (pre := (([] ++ u0) ++ u1) ++ u2) (post := u4) S (by decide) (by kernel_rfl) cFile x3 vA rfl (Or.inl ⟨rfl, ⟨by kernel_rfl, by kernel_rfl⟩⟩) ⟨_, Tryz.func47, by kernel_rfl, by kernel_rfl⟩ szFile_c p1 h3 (by simp only [List.append_assoc, List.nil_append]) (by simp only [List.length_append, List.length_nil, l0, l1, l2]) ?_ ?_
  · intro hn a V q1 q2 q3 q4
    exact z_ret rfl q3 q2 ⟨congrArg (fun z => Ending.returned (.int .i64 z)) (szL_no (fun hq => hn (Int.le_trans e3 hq))).symm, q4⟩
  intro a W S
  replace S := z_skip (T := cBool) (b := x4) S rfl
  exact z_tail S (by decide) rfl (fun hq hb => ⟨congrArg (fun z => Ending.returned (.int .i64 z)) (szL_yes hq).symm, hb⟩)
set_option maxRecDepth 10000 in
set_option maxHeartbeats 2000000 in
theorem szReplicaS_c : SzC Tryz.prog cReplicaS v1 9 := by
  rintro vs xs w L ⟨o, c, rfl, hl, hr⟩ h0 h1
  show Calls _ _ #[.slice o xs.length c, .int .i64 L] w _
  refine calls_of_wp Tryz.func9 rfl ?_
  exact row_sz (T := cReplica) (N := 27) rfl (by decide) rfl (by kernel_rfl) w o xs.length c xs rfl L hl h0 h1 (fun i a W hi h Q q r => body_szC (eA := 104) (by decide) (by kernel_rfl) (by kernel_rfl) rfl ⟨by kernel_rfl, by kernel_rfl⟩ ⟨_, Tryz.func29, by kernel_rfl, by kernel_rfl⟩ szReplica_c rfl hr h1 i a W hi h Q q r)
set_option maxRecDepth 10000 in
set_option maxHeartbeats 2000000 in
theorem szMsg_c : SzC Tryz.prog cMsg vA 31 := by
  intro vs x w L hr p0 p1
  obtain ⟨⟨⟨⟨⟨⟨⟨⟨⟨⟨⟨_, x0⟩, x1⟩, x2⟩, x3⟩, x4⟩, x5⟩, x6⟩, x7⟩, x8⟩, x9⟩, x10⟩ := x
  obtain ⟨_, u10, rfl, ⟨_, u9, rfl, ⟨_, u8, rfl, ⟨_, u7, rfl, ⟨_, u6, rfl, ⟨_, u5, rfl, ⟨_, u4, rfl, ⟨_, u3, rfl, ⟨_, u2, rfl, ⟨_, u1, rfl, ⟨_, u0, rfl, rfl, h0⟩, h1⟩, h2⟩, h3⟩, h4⟩, h5⟩, h6⟩, h7⟩, h8⟩, h9⟩, h10⟩ := hr
  have l0 : u0.length = 1 := cInt.len h0
  have l1 : u1.length = 1 := cInt.len h1
  have l2 : u2.length = 1 := cInt.len h2
  have l3 : u3.length = 1 := cInt.len h3
  have l4 : u4.length = 1 := cInt.len h4
  have l5 : u5.length = 1 := cInt.len h5
  have l6 : u6.length = 1 := cEntryS.len h6
  have l7 : u7.length = 1 := cInt.len h7
  have l8 : u8.length = 1 := cBool.len h8
  have l9 : u9.length = 1 := cByteS.len h9
  have e10 : (cTwo (cTwo (cTwo (cTwo (cTwo (cTwo (cTwo (cTwo (cTwo (cTwo (cTwo cNil cInt) cInt) cInt) cInt) cInt) cInt) cEntryS) cInt) cBool) cByteS) cGroup).tot ((((((((((((), x0), x1), x2), x3), x4), x5), x6), x7), x8), x9), x10) ≤ cMsg.tot ((((((((((((), x0), x1), x2), x3), x4), x5), x6), x7), x8), x9), x10) := Int.le_refl _
  have e9 : (cTwo (cTwo (cTwo (cTwo (cTwo (cTwo (cTwo (cTwo (cTwo (cTwo cNil cInt) cInt) cInt) cInt) cInt) cInt) cEntryS) cInt) cBool) cByteS).tot (((((((((((), x0), x1), x2), x3), x4), x5), x6), x7), x8), x9) ≤ cMsg.tot ((((((((((((), x0), x1), x2), x3), x4), x5), x6), x7), x8), x9), x10) := Int.le_trans tot_le e10
  have e8 : (cTwo (cTwo (cTwo (cTwo (cTwo (cTwo (cTwo (cTwo (cTwo cNil cInt) cInt) cInt) cInt) cInt) cInt) cEntryS) cInt) cBool).tot ((((((((((), x0), x1), x2), x3), x4), x5), x6), x7), x8) ≤ cMsg.tot ((((((((((((), x0), x1), x2), x3), x4), x5), x6), x7), x8), x9), x10) := Int.le_trans tot_le e9
  have e7 : (cTwo (cTwo (cTwo (cTwo (cTwo (cTwo (cTwo (cTwo cNil cInt) cInt) cInt) cInt) cInt) cInt) cEntryS) cInt).tot (((((((((), x0), x1), x2), x3), x4), x5), x6), x7) ≤ cMsg.tot ((((((((((((), x0), x1), x2), x3), x4), x5), x6), x7), x8), x9), x10) := Int.le_trans tot_le e8
  have e6 : (cTwo (cTwo (cTwo (cTwo (cTwo (cTwo (cTwo cNil cInt) cInt) cInt) cInt) cInt) cInt) cEntryS).tot ((((((((), x0), x1), x2), x3), x4), x5), x6) ≤ cMsg.tot ((((((((((((), x0), x1), x2), x3), x4), x5), x6), x7), x8), x9), x10) := Int.le_trans tot_le e7
  refine calls_of_wp Tryz.func31 rfl ?_
  refine z_head (us := (((((((((([] ++ u0) ++ u1) ++ u2) ++ u3) ++ u4) ++ u5) ++ u6) ++ u7) ++ u8) ++ u9) ++ u10) (N := 24) rfl rfl (by decide) p0 ?_
  intro a W S
  replace S := z_skip (T := cInt) (b := x0) S rfl
  replace S := z_skip (T := cInt) (b := x1) S rfl
  replace S := z_skip (T := cInt) (b := x2) S rfl
  replace S := z_skip (T := cInt) (b := x3) S rfl
  replace S := z_skip (T := cInt) (b := x4) S rfl
  replace S := z_skip (T := cInt) (b := x5) S rfl
  refine z_call (n := 1) (off := 6) (pre := ((((([] ++ u0) ++ u1) ++ u2) ++ u3) ++ u4) ++ u5) (post := u7 ++ (u8 ++ (u9 ++ (u10)))) S (by decide) (by kernel_rfl) cEntryS x6 v1 rfl (Or.inr ⟨rfl, ⟨by kernel_rfl, by kernel_rfl⟩, rfl⟩) ⟨_, Tryz.func13, by kernel_rfl, by kernel_rfl⟩ szEntryS_c p1 h6 (by simp only [List.append_assoc, List.nil_append]) (by simp only [List.length_append, List.length_nil, l0, l1, l2, l3, l4, l5]) ?_ ?_
  · intro hn a V q1 q2 q3 q4
    exact z_ret rfl q3 q2 ⟨congrArg (fun z => Ending.returned (.int .i64 z)) (szL_no (fun hq => hn (Int.le_trans e6 hq))).symm, q4⟩
  intro a W S
  replace S := z_skip (T := cInt) (b := x7) S rfl
  replace S := z_skip (T := cBool) (b := x8) S rfl
  refine z_call (n := 1) (off := 9) (pre := (((((((([] ++ u0) ++ u1) ++ u2) ++ u3) ++ u4) ++ u5) ++ u6) ++ u7) ++ u8) (post := u10) S (by decide) (by kernel_rfl) cByteS x9 v1 rfl (Or.inr ⟨rfl, ⟨by kernel_rfl, by kernel_rfl⟩, rfl⟩) ⟨_, Tryz.func48, by kernel_rfl, by kernel_rfl⟩ szByteS_c p1 h9 (by simp only [List.append_assoc, List.nil_append]) (by simp only [List.length_append, List.length_nil, l0, l1, l2, l3, l4, l5, l6, l7, l8]) ?_ ?_
  · intro hn a V q1 q2 q3 q4
    exact z_ret rfl q3 q2 ⟨congrArg (fun z => Ending.returned (.int .i64 z)) (szL_no (fun hq => hn (Int.le_trans e9 hq))).symm, q4⟩
  intro a W S
  refine z_call (n := 2) (off := 10) (pre := ((((((((([] ++ u0) ++ u1) ++ u2) ++ u3) ++ u4) ++ u5) ++ u6) ++ u7) ++ u8) ++ u9) (post := []) S (by decide) (by kernel_rfl) cGroup x10 vA rfl (Or.inl ⟨rfl, ⟨by kernel_rfl, by kernel_rfl⟩⟩) ⟨_, Tryz.func10, by kernel_rfl, by kernel_rfl⟩ szGroup_c p1 h10 (by simp only [List.append_assoc, List.nil_append, List.append_nil]) (by simp only [List.length_append, List.length_nil, l0, l1, l2, l3, l4, l5, l6, l7, l8, l9]) ?_ ?_
  · intro hn a V q1 q2 q3 q4
    exact z_ret rfl q3 q2 ⟨congrArg (fun z => Ending.returned (.int .i64 z)) (szL_no (fun hq => hn (Int.le_trans e10 hq))).symm, q4⟩
  intro a W S
  exact z_tail S (by decide) rfl (fun hq hb => ⟨congrArg (fun z => Ending.returned (.int .i64 z)) (szL_yes hq).symm, hb⟩)
set_option maxRecDepth 10000 in
set_option maxHeartbeats 2000000 in
theorem szMsgS_c : SzC Tryz.prog cMsgS v1 11 := by
  rintro vs xs w L ⟨o, c, rfl, hl, hr⟩ h0 h1
  show Calls _ _ #[.slice o xs.length c, .int .i64 L] w _
  refine calls_of_wp Tryz.func11 rfl ?_
  exact row_sz (T := cMsg) (N := 27) rfl (by decide) rfl (by kernel_rfl) w o xs.length c xs rfl L hl h0 h1 (fun i a W hi h Q q r => body_szC (eA := 108) (by decide) (by kernel_rfl) (by kernel_rfl) rfl ⟨by kernel_rfl, by kernel_rfl⟩ ⟨_, Tryz.func31, by kernel_rfl, by kernel_rfl⟩ szMsg_c rfl hr h1 i a W hi h Q q r)
set_option maxRecDepth 10000 in
set_option maxHeartbeats 2000000 in
theorem szIntA2S_c : SzC Tryz.prog cIntA2S v1 12 := by
  rintro vs xs w L ⟨o, c, rfl, hl, hr⟩ h0 h1
  show Calls _ _ #[.slice o xs.length c, .int .i64 L] w _
  have e : cIntA2S.tot xs = xs.length := by
    show (xs.length : Int) + sumT cIntA2.tot xs = _
    rw [sumT_zero (f := cIntA2.tot) (fun _ => rfl), Int.add_zero]
  rw [e]
  refine calls_of_wp Tryz.func12 rfl ?_
  exact row_sz0 (N := 12) rfl (by decide) rfl (by kernel_rfl) w o xs.length c L hl h0 h1
set_option maxRecDepth 10000 in
set_option maxHeartbeats 2000000 in
theorem szStringS_c : SzC Tryz.prog cStringS v1 14 := by
  rintro vs xs w L ⟨o, c, rfl, hl, hr⟩ h0 h1
  show Calls _ _ #[.slice o xs.length c, .int .i64 L] w _
  refine calls_of_wp Tryz.func14 rfl ?_
  exact row_sz (T := cStr) (N := 28) rfl (by decide) rfl (by kernel_rfl) w o xs.length c xs rfl L hl h0 h1 (fun i a W hi h Q q r => body_szT (eA := 9) (by decide) (by kernel_rfl) (by kernel_rfl) ⟨by kernel_rfl, by kernel_rfl⟩ (by kernel_rfl) rfl hr h1 i a W hi h Q q r)
set_option maxRecDepth 10000 in
set_option maxHeartbeats 2000000 in
theorem szCluster_c : SzC Tryz.prog cCluster vA 4 := by
  intro vs x w L hr p0 p1
  obtain ⟨⟨⟨⟨⟨⟨⟨_, x0⟩, x1⟩, x2⟩, x3⟩, x4⟩, x5⟩, x6⟩ := x
  obtain ⟨_, u6, rfl, ⟨_, u5, rfl, ⟨_, u4, rfl, ⟨_, u3, rfl, ⟨_, u2, rfl, ⟨_, u1, rfl, ⟨_, u0, rfl, rfl, h0⟩, h1⟩, h2⟩, h3⟩, h4⟩, h5⟩, h6⟩ := hr
  have l0 : u0.length = 1 := cReplicaS.len h0
  have l1 : u1.length = 2 := cGroup.len h1
  have l2 : u2.length = 1 := cMsgS.len h2
  have l3 : u3.length = 1 := cIntA2S.len h3
  have l4 : u4.length = 1 := cEntryS.len h4
  have e6 : (cTwo (cTwo (cTwo (cTwo (cTwo (cTwo (cTwo cNil cReplicaS) cGroup) cMsgS) cIntA2S) cEntryS) cStringS) cBool).tot ((((((((), x0), x1), x2), x3), x4), x5), x6) ≤ cCluster.tot ((((((((), x0), x1), x2), x3), x4), x5), x6) := Int.le_refl _
  have e5 : (cTwo (cTwo (cTwo (cTwo (cTwo (cTwo cNil cReplicaS) cGroup) cMsgS) cIntA2S) cEntryS) cStringS).tot (((((((), x0), x1), x2), x3), x4), x5) ≤ cCluster.tot ((((((((), x0), x1), x2), x3), x4), x5), x6) := Int.le_trans tot_le e6
  have e4 : (cTwo (cTwo (cTwo (cTwo (cTwo cNil cReplicaS) cGroup) cMsgS) cIntA2S) cEntryS).tot ((((((), x0), x1), x2), x3), x4) ≤ cCluster.tot ((((((((), x0), x1), x2), x3), x4), x5), x6) := Int.le_trans tot_le e5
  have e3 : (cTwo (cTwo (cTwo (cTwo cNil cReplicaS) cGroup) cMsgS) cIntA2S).tot (((((), x0), x1), x2), x3) ≤ cCluster.tot ((((((((), x0), x1), x2), x3), x4), x5), x6) := Int.le_trans tot_le e4
  have e2 : (cTwo (cTwo (cTwo cNil cReplicaS) cGroup) cMsgS).tot ((((), x0), x1), x2) ≤ cCluster.tot ((((((((), x0), x1), x2), x3), x4), x5), x6) := Int.le_trans tot_le e3
  have e1 : (cTwo (cTwo cNil cReplicaS) cGroup).tot (((), x0), x1) ≤ cCluster.tot ((((((((), x0), x1), x2), x3), x4), x5), x6) := Int.le_trans tot_le e2
  have e0 : (cTwo cNil cReplicaS).tot ((), x0) ≤ cCluster.tot ((((((((), x0), x1), x2), x3), x4), x5), x6) := Int.le_trans tot_le e1
  refine calls_of_wp Tryz.func4 rfl ?_
  refine z_head (us := (((((([] ++ u0) ++ u1) ++ u2) ++ u3) ++ u4) ++ u5) ++ u6) (N := 42) rfl rfl (by decide) p0 ?_
  intro a W S
  refine z_call (n := 1) (off := 0) (pre := []) (post := u1 ++ (u2 ++ (u3 ++ (u4 ++ (u5 ++ (u6)))))) S (by decide) (by kernel_rfl) cReplicaS x0 v1 rfl (Or.inr ⟨rfl, ⟨by kernel_rfl, by kernel_rfl⟩, rfl⟩) ⟨_, Tryz.func9, by kernel_rfl, by kernel_rfl⟩ szReplicaS_c p1 h0 (by simp only [List.append_assoc, List.nil_append]) rfl ?_ ?_
  · intro hn a V q1 q2 q3 q4
    exact z_ret rfl q3 q2 ⟨congrArg (fun z => Ending.returned (.int .i64 z)) (szL_no (fun hq => hn (Int.le_trans e0 hq))).symm, q4⟩
  intro a W S
  refine z_call (n := 2) (off := 1) (pre := [] ++ u0) (post := u2 ++ (u3 ++ (u4 ++ (u5 ++ (u6))))) S (by decide) (by kernel_rfl) cGroup x1 vA rfl (Or.inl ⟨rfl, ⟨by kernel_rfl, by kernel_rfl⟩⟩) ⟨_, Tryz.func10, by kernel_rfl, by kernel_rfl⟩ szGroup_c p1 h1 (by simp only [List.append_assoc, List.nil_append]) (by simp only [List.length_append, List.length_nil, l0]) ?_ ?_
  · intro hn a V q1 q2 q3 q4
    exact z_ret rfl q3 q2 ⟨congrArg (fun z => Ending.returned (.int .i64 z)) (szL_no (fun hq => hn (Int.le_trans e1 hq))).symm, q4⟩
  intro a W S
  refine z_call (n := 1) (off := 3) (pre := ([] ++ u0) ++ u1) (post := u3 ++ (u4 ++ (u5 ++ (u6)))) S (by decide) (by kernel_rfl) cMsgS x2 v1 rfl (Or.inr ⟨rfl, ⟨by kernel_rfl, by kernel_rfl⟩, rfl⟩) ⟨_, Tryz.func11, by kernel_rfl, by kernel_rfl⟩ szMsgS_c p1 h2 (by simp only [List.append_assoc, List.nil_append]) (by simp only [List.length_append, List.length_nil, l0, l1]) ?_ ?_
  · intro hn a V q1 q2 q3 q4
    exact z_ret rfl q3 q2 ⟨congrArg (fun z => Ending.returned (.int .i64 z)) (szL_no (fun hq => hn (Int.le_trans e2 hq))).symm, q4⟩
  intro a W S
  refine z_call (n := 1) (off := 4) (pre := (([] ++ u0) ++ u1) ++ u2) (post := u4 ++ (u5 ++ (u6))) S (by decide) (by kernel_rfl) cIntA2S x3 v1 rfl (Or.inr ⟨rfl, ⟨by kernel_rfl, by kernel_rfl⟩, rfl⟩) ⟨_, Tryz.func12, by kernel_rfl, by kernel_rfl⟩ szIntA2S_c p1 h3 (by simp only [List.append_assoc, List.nil_append]) (by simp only [List.length_append, List.length_nil, l0, l1, l2]) ?_ ?_
  · intro hn a V q1 q2 q3 q4
    exact z_ret rfl q3 q2 ⟨congrArg (fun z => Ending.returned (.int .i64 z)) (szL_no (fun hq => hn (Int.le_trans e3 hq))).symm, q4⟩
  intro a W S
  refine z_call (n := 1) (off := 5) (pre := ((([] ++ u0) ++ u1) ++ u2) ++ u3) (post := u5 ++ (u6)) S (by decide) (by kernel_rfl) cEntryS x4 v1 rfl (Or.inr ⟨rfl, ⟨by kernel_rfl, by kernel_rfl⟩, rfl⟩) ⟨_, Tryz.func13, by kernel_rfl, by kernel_rfl⟩ szEntryS_c p1 h4 (by simp only [List.append_assoc, List.nil_append]) (by simp only [List.length_append, List.length_nil, l0, l1, l2, l3]) ?_ ?_
  · intro hn a V q1 q2 q3 q4
    exact z_ret rfl q3 q2 ⟨congrArg (fun z => Ending.returned (.int .i64 z)) (szL_no (fun hq => hn (Int.le_trans e4 hq))).symm, q4⟩
  intro a W S
  refine z_call (n := 1) (off := 6) (pre := (((([] ++ u0) ++ u1) ++ u2) ++ u3) ++ u4) (post := u6) S (by decide) (by kernel_rfl) cStringS x5 v1 rfl (Or.inr ⟨rfl, ⟨by kernel_rfl, by kernel_rfl⟩, rfl⟩) ⟨_, Tryz.func14, by kernel_rfl, by kernel_rfl⟩ szStringS_c p1 h5 (by simp only [List.append_assoc, List.nil_append]) (by simp only [List.length_append, List.length_nil, l0, l1, l2, l3, l4]) ?_ ?_
  · intro hn a V q1 q2 q3 q4
    exact z_ret rfl q3 q2 ⟨congrArg (fun z => Ending.returned (.int .i64 z)) (szL_no (fun hq => hn (Int.le_trans e5 hq))).symm, q4⟩
  intro a W S
  replace S := z_skip (T := cBool) (b := x6) S rfl
  exact z_tail S (by decide) rfl (fun hq hb => ⟨congrArg (fun z => Ending.returned (.int .i64 z)) (szL_yes hq).symm, hb⟩)

end Go.Proofs.YtjiplphfpkhmpaaGreat
