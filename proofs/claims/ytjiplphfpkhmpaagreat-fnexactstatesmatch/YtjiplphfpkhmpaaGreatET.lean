/-
  The laws' copies of all that a cluster holds.
-/
import Derived.Test.YtjiplphfpkhmpaaGreatEB
namespace Go.Proofs.YtjiplphfpkhmpaaGreat
open Go.ChangeShapes Go.WideShapes Go.RowKit

set_option maxRecDepth 10000 in
set_option maxHeartbeats 2000000 in
theorem toIntS_c : ToC Tryz.prog cIntS v1 34 := by
  rintro vs xs w ⟨o, c, rfl, hl, hr⟩ ht
  have h0 := sumT_nn cInt.nn xs
  have h1 : (xs.length : Int) + sumT cInt.tot xs ≤ 1048576 := ht
  show Calls _ _ #[.slice o xs.length c] w _
  refine calls_of_wp Tryz.func34 rfl ?_
  exact row_to (T := cInt) (N := 22) (k := 1) (eO := 3) rfl (by decide) rfl (by kernel_rfl) (by kernel_rfl) (by kernel_rfl) rfl w o xs.length c xs rfl (by omega) (fun i a W hi h Q q => body_toS (eA := 3) (eO := 3) (by decide) (by kernel_rfl) (by kernel_rfl) (by kernel_rfl) (by kernel_rfl) rfl ⟨by kernel_rfl, by kernel_rfl⟩ (fun h => h) rfl hr i a W hi h Q q)
set_option maxRecDepth 10000 in
set_option maxHeartbeats 2000000 in
theorem toGroup_c : ToC Tryz.prog cGroup vA 17 := by
  intro vs x w hr ht
  obtain ⟨⟨_, x0⟩, x1⟩ := x
  obtain ⟨_, u1, rfl, ⟨_, u0, rfl, rfl, h0⟩, h1⟩ := hr
  obtain ⟨ht, t1⟩ := tot_two ht
  obtain ⟨ht, t0⟩ := tot_two ht
  have l0 : u0.length = 1 := cIntS.len h0
  have l1 : u1.length = 1 := cIntS.len h1
  refine calls_of_wp Tryz.func17 rfl ?_
  refine st_head (us := ([] ++ u0) ++ u1) (zs := [.slice none 0 0] ++ ([.slice none 0 0] ++ [])) (z := .agg #[.slice none 0 0, .slice none 0 0]) (N := 13) rfl rfl (by decide) (by kernel_rfl) (by kernel_rfl) ?_
  intro a W S
  refine st_call (n := 1) (pre := []) (post := u1) S (by decide) (by kernel_rfl) (by kernel_rfl) cIntS x0 v1 rfl (Or.inr ⟨rfl, ⟨by kernel_rfl, by kernel_rfl⟩, rfl⟩) ⟨_, Tryz.func34, by kernel_rfl, by kernel_rfl⟩ toIntS_c (by kernel_rfl) h0 t0 (by simp only [List.nil_append]) rfl rfl ?_
  intro a W S
  refine st_call (n := 1) (pre := [] ++ u0) (post := []) S (by decide) (by kernel_rfl) (by kernel_rfl) cIntS x1 v1 rfl (Or.inr ⟨rfl, ⟨by kernel_rfl, by kernel_rfl⟩, rfl⟩) ⟨_, Tryz.func34, by kernel_rfl, by kernel_rfl⟩ toIntS_c (by kernel_rfl) h1 t1 (by simp only [List.nil_append, List.append_nil]) (by simp only [List.length_append, List.length_nil, l0]) rfl ?_
  intro a W S
  refine st_tail (n := 2) S (by decide) ⟨by kernel_rfl, by kernel_rfl⟩ (by kernel_rfl) (by kernel_rfl) rfl ?_
  intro vs V hr hb
  exact ⟨vs, rfl, hr, hb⟩
set_option maxRecDepth 10000 in
set_option maxHeartbeats 2000000 in
theorem toByteS_c : ToC Tryz.prog cByteS v1 52 := by
  rintro vs xs w ⟨o, c, rfl, hl, hr⟩ ht
  have h0 := sumT_nn cByte.nn xs
  have h1 : (xs.length : Int) + sumT cByte.tot xs ≤ 1048576 := ht
  show Calls _ _ #[.slice o xs.length c] w _
  refine calls_of_wp Tryz.func52 rfl ?_
  exact row_to (T := cByte) (N := 22) (k := 1) (eO := 5) rfl (by decide) rfl (by kernel_rfl) (by kernel_rfl) (by kernel_rfl) rfl w o xs.length c xs rfl (by omega) (fun i a W hi h Q q => body_toS (eA := 5) (eO := 5) (by decide) (by kernel_rfl) (by kernel_rfl) (by kernel_rfl) (by kernel_rfl) rfl ⟨by kernel_rfl, by kernel_rfl⟩ (fun h => h) rfl hr i a W hi h Q q)
set_option maxRecDepth 10000 in
set_option maxHeartbeats 2000000 in
theorem toEntry_c : ToC Tryz.prog cEntry vA 37 := by
  intro vs x w hr ht
  obtain ⟨⟨⟨_, x0⟩, x1⟩, x2⟩ := x
  obtain ⟨_, u2, rfl, ⟨_, u1, rfl, ⟨_, u0, rfl, rfl, h0⟩, h1⟩, h2⟩ := hr
  obtain ⟨ht, t2⟩ := tot_two ht
  obtain ⟨ht, t1⟩ := tot_two ht
  obtain ⟨ht, t0⟩ := tot_two ht
  have l0 : u0.length = 1 := cInt.len h0
  have l1 : u1.length = 1 := cInt.len h1
  have l2 : u2.length = 1 := cByteS.len h2
  refine calls_of_wp Tryz.func37 rfl ?_
  refine st_head (us := (([] ++ u0) ++ u1) ++ u2) (zs := [.int .i64 0] ++ ([.int .i64 0] ++ ([.slice none 0 0] ++ []))) (z := .agg #[.int .i64 0, .int .i64 0, .slice none 0 0]) (N := 15) rfl rfl (by decide) (by kernel_rfl) (by kernel_rfl) ?_
  intro a W S
  refine st_copy (pre := []) (post := u1 ++ (u2)) S (by decide) (by kernel_rfl) (by kernel_rfl) ⟨by kernel_rfl, by kernel_rfl⟩ cInt x0 h0 (fun _ _ => h0) rfl (by simp only [List.append_assoc, List.nil_append]) rfl rfl ?_
  intro a W S
  refine st_copy (pre := [] ++ u0) (post := u2) S (by decide) (by kernel_rfl) (by kernel_rfl) ⟨by kernel_rfl, by kernel_rfl⟩ cInt x1 h1 (fun _ _ => h1) rfl (by simp only [List.append_assoc, List.nil_append]) (by simp only [List.length_append, List.length_nil, l0]) rfl ?_
  intro a W S
  refine st_call (n := 1) (pre := ([] ++ u0) ++ u1) (post := []) S (by decide) (by kernel_rfl) (by kernel_rfl) cByteS x2 v1 rfl (Or.inr ⟨rfl, ⟨by kernel_rfl, by kernel_rfl⟩, rfl⟩) ⟨_, Tryz.func52, by kernel_rfl, by kernel_rfl⟩ toByteS_c (by kernel_rfl) h2 t2 (by simp only [List.append_assoc, List.nil_append, List.append_nil]) (by simp only [List.length_append, List.length_nil, l0, l1]) rfl ?_
  intro a W S
  refine st_tail (n := 3) S (by decide) ⟨by kernel_rfl, by kernel_rfl⟩ (by kernel_rfl) (by kernel_rfl) rfl ?_
  intro vs V hr hb
  exact ⟨vs, rfl, hr, hb⟩
set_option maxRecDepth 10000 in
set_option maxHeartbeats 2000000 in
theorem toEntryS_c : ToC Tryz.prog cEntryS v1 20 := by
  rintro vs xs w ⟨o, c, rfl, hl, hr⟩ ht
  have h0 := sumT_nn cEntry.nn xs
  have h1 : (xs.length : Int) + sumT cEntry.tot xs ≤ 1048576 := ht
  show Calls _ _ #[.slice o xs.length c] w _
  refine calls_of_wp Tryz.func20 rfl ?_
  exact row_to (T := cEntry) (N := 23) (k := 3) (eO := 131) rfl (by decide) rfl (by kernel_rfl) (by kernel_rfl) (by kernel_rfl) rfl w o xs.length c xs rfl (by omega) (fun i a W hi h Q q => body_toC (eA := 111) (eO := 131) (by decide) (by kernel_rfl) (by kernel_rfl) (by kernel_rfl) (by kernel_rfl) rfl ⟨by kernel_rfl, by kernel_rfl⟩ (by kernel_rfl) ⟨_, Tryz.func37, by kernel_rfl, by kernel_rfl⟩ toEntry_c rfl hr (fun x hx => by have := sumT_mem cEntry.nn hx; omega) i a W hi h Q q)
set_option maxRecDepth 10000 in
set_option maxHeartbeats 2000000 in
theorem toKeep_c : ToC Tryz.prog cKeep vA 62 := by
  intro vs x w hr ht
  obtain ⟨⟨⟨⟨⟨⟨⟨_, x0⟩, x1⟩, x2⟩, x3⟩, x4⟩, x5⟩, x6⟩ := x
  obtain ⟨_, u6, rfl, ⟨_, u5, rfl, ⟨_, u4, rfl, ⟨_, u3, rfl, ⟨_, u2, rfl, ⟨_, u1, rfl, ⟨_, u0, rfl, rfl, h0⟩, h1⟩, h2⟩, h3⟩, h4⟩, h5⟩, h6⟩ := hr
  obtain ⟨ht, t6⟩ := tot_two ht
  obtain ⟨ht, t5⟩ := tot_two ht
  obtain ⟨ht, t4⟩ := tot_two ht
  obtain ⟨ht, t3⟩ := tot_two ht
  obtain ⟨ht, t2⟩ := tot_two ht
  obtain ⟨ht, t1⟩ := tot_two ht
  obtain ⟨ht, t0⟩ := tot_two ht
  have l0 : u0.length = 1 := cInt.len h0
  have l1 : u1.length = 1 := cInt.len h1
  have l2 : u2.length = 1 := cInt.len h2
  have l3 : u3.length = 1 := cInt.len h3
  have l4 : u4.length = 2 := cGroup.len h4
  have l5 : u5.length = 1 := cByteS.len h5
  have l6 : u6.length = 1 := cEntryS.len h6
  refine calls_of_wp Tryz.func62 rfl ?_
  refine st_head (us := (((((([] ++ u0) ++ u1) ++ u2) ++ u3) ++ u4) ++ u5) ++ u6) (zs := [.int .i64 0] ++ ([.int .i64 0] ++ ([.int .i64 0] ++ ([.int .i64 0] ++ ([.slice none 0 0, .slice none 0 0] ++ ([.slice none 0 0] ++ ([.slice none 0 0] ++ []))))))) (z := .agg #[.int .i64 0, .int .i64 0, .int .i64 0, .int .i64 0, .slice none 0 0, .slice none 0 0, .slice none 0 0, .slice none 0 0]) (N := 29) rfl rfl (by decide) (by kernel_rfl) (by kernel_rfl) ?_
  intro a W S
  refine st_copy (pre := []) (post := u1 ++ (u2 ++ (u3 ++ (u4 ++ (u5 ++ (u6)))))) S (by decide) (by kernel_rfl) (by kernel_rfl) ⟨by kernel_rfl, by kernel_rfl⟩ cInt x0 h0 (fun _ _ => h0) rfl (by simp only [List.append_assoc, List.nil_append]) rfl rfl ?_
  intro a W S
  refine st_copy (pre := [] ++ u0) (post := u2 ++ (u3 ++ (u4 ++ (u5 ++ (u6))))) S (by decide) (by kernel_rfl) (by kernel_rfl) ⟨by kernel_rfl, by kernel_rfl⟩ cInt x1 h1 (fun _ _ => h1) rfl (by simp only [List.append_assoc, List.nil_append]) (by simp only [List.length_append, List.length_nil, l0]) rfl ?_
  intro a W S
  refine st_copy (pre := ([] ++ u0) ++ u1) (post := u3 ++ (u4 ++ (u5 ++ (u6)))) S (by decide) (by kernel_rfl) (by kernel_rfl) ⟨by kernel_rfl, by kernel_rfl⟩ cInt x2 h2 (fun _ _ => h2) rfl (by simp only [List.append_assoc, List.nil_append]) (by simp only [List.length_append, List.length_nil, l0, l1]) rfl ?_
  intro a W S
  refine st_copy (pre := (([] ++ u0) ++ u1) ++ u2) (post := u4 ++ (u5 ++ (u6))) S (by decide) (by kernel_rfl) (by kernel_rfl) ⟨by kernel_rfl, by kernel_rfl⟩ cInt x3 h3 (fun _ _ => h3) rfl (by simp only [List.append_assoc, List.nil_append]) (by simp only [List.length_append, List.length_nil, l0, l1, l2]) rfl ?_
  intro a W S
  refine st_call (n := 2) (pre := ((([] ++ u0) ++ u1) ++ u2) ++ u3) (post := u5 ++ (u6)) S (by decide) (by kernel_rfl) (by kernel_rfl) cGroup x4 vA rfl (Or.inl ⟨rfl, ⟨by kernel_rfl, by kernel_rfl⟩⟩) ⟨_, Tryz.func17, by kernel_rfl, by kernel_rfl⟩ toGroup_c (by kernel_rfl) h4 t4 (by simp only [List.append_assoc, List.nil_append]) (by simp only [List.length_append, List.length_nil, l0, l1, l2, l3]) rfl ?_
  intro a W S
  refine st_call (n := 1) (pre := (((([] ++ u0) ++ u1) ++ u2) ++ u3) ++ u4) (post := u6) S (by decide) (by kernel_rfl) (by kernel_rfl) cByteS x5 v1 rfl (Or.inr ⟨rfl, ⟨by kernel_rfl, by kernel_rfl⟩, rfl⟩) ⟨_, Tryz.func52, by kernel_rfl, by kernel_rfl⟩ toByteS_c (by kernel_rfl) h5 t5 (by simp only [List.append_assoc, List.nil_append]) (by simp only [List.length_append, List.length_nil, l0, l1, l2, l3, l4]) rfl ?_
  intro a W S
  refine st_call (n := 1) (pre := ((((([] ++ u0) ++ u1) ++ u2) ++ u3) ++ u4) ++ u5) (post := []) S (by decide) (by kernel_rfl) (by kernel_rfl) cEntryS x6 v1 rfl (Or.inr ⟨rfl, ⟨by kernel_rfl, by kernel_rfl⟩, rfl⟩) ⟨_, Tryz.func20, by kernel_rfl, by kernel_rfl⟩ toEntryS_c (by kernel_rfl) h6 t6 (by simp only [List.append_assoc, List.nil_append, List.append_nil]) (by simp only [List.length_append, List.length_nil, l0, l1, l2, l3, l4, l5]) rfl ?_
  intro a W S
  refine st_tail (n := 8) S (by decide) ⟨by kernel_rfl, by kernel_rfl⟩ (by kernel_rfl) (by kernel_rfl) rfl ?_
  intro vs V hr hb
  exact ⟨vs, rfl, hr, hb⟩
set_option maxRecDepth 10000 in
set_option maxHeartbeats 2000000 in
theorem toIntA8_c : ToC Tryz.prog cIntA8 vA 63 := by
  rintro vs xs w ⟨hv, hx⟩ ht
  have hl : vs.length = 8 := by rw [hv, List.length_map, hx]
  have h1 : One vs := cIntA8.one (W := w) (B := 0) ⟨hv, hx⟩
  refine calls_of_wp Tryz.func63 rfl ?_
  refine wp_mono (arr_to (n := 8) (us := vs) (zs := [.int .i64 0, .int .i64 0, .int .i64 0, .int .i64 0, .int .i64 0, .int .i64 0, .int .i64 0, .int .i64 0]) (z := .agg #[.int .i64 0, .int .i64 0, .int .i64 0, .int .i64 0, .int .i64 0, .int .i64 0, .int .i64 0, .int .i64 0]) (eA := 3) (eO := 3) rfl rfl (by kernel_rfl) rfl (by kernel_rfl) (by kernel_rfl) (by kernel_rfl) (by kernel_rfl) ⟨by kernel_rfl, by kernel_rfl⟩ ⟨by kernel_rfl, by kernel_rfl⟩ hl rfl h1 (by decide) rfl) ?_
  exact fun e a W h => post_mono (fun e V hq => ⟨vs, hq.1, ⟨hv, hx⟩, hq.2⟩) e a W h
set_option maxRecDepth 10000 in
set_option maxHeartbeats 2000000 in
theorem toServer_c : ToC Tryz.prog cServer vA 49 := by
  intro vs x w hr ht
  obtain ⟨⟨⟨⟨⟨⟨⟨⟨⟨⟨_, x0⟩, x1⟩, x2⟩, x3⟩, x4⟩, x5⟩, x6⟩, x7⟩, x8⟩, x9⟩ := x
  obtain ⟨_, u9, rfl, ⟨_, u8, rfl, ⟨_, u7, rfl, ⟨_, u6, rfl, ⟨_, u5, rfl, ⟨_, u4, rfl, ⟨_, u3, rfl, ⟨_, u2, rfl, ⟨_, u1, rfl, ⟨_, u0, rfl, rfl, h0⟩, h1⟩, h2⟩, h3⟩, h4⟩, h5⟩, h6⟩, h7⟩, h8⟩, h9⟩ := hr
  obtain ⟨ht, t9⟩ := tot_two ht
  obtain ⟨ht, t8⟩ := tot_two ht
  obtain ⟨ht, t7⟩ := tot_two ht
  obtain ⟨ht, t6⟩ := tot_two ht
  obtain ⟨ht, t5⟩ := tot_two ht
  obtain ⟨ht, t4⟩ := tot_two ht
  obtain ⟨ht, t3⟩ := tot_two ht
  obtain ⟨ht, t2⟩ := tot_two ht
  obtain ⟨ht, t1⟩ := tot_two ht
  obtain ⟨ht, t0⟩ := tot_two ht
  have l0 : u0.length = 1 := cInt.len h0
  have l1 : u1.length = 8 := cKeep.len h1
  have l2 : u2.length = 1 := cInt.len h2
  have l3 : u3.length = 1 := cInt.len h3
  have l4 : u4.length = 1 := cInt.len h4
  have l5 : u5.length = 1 := cIntS.len h5
  have l6 : u6.length = 8 := cIntA8.len h6
  have l7 : u7.length = 8 := cIntA8.len h7
  have l8 : u8.length = 1 := cInt.len h8
  have l9 : u9.length = 1 := cInt.len h9
  refine calls_of_wp Tryz.func49 rfl ?_
  refine st_head (us := ((((((((([] ++ u0) ++ u1) ++ u2) ++ u3) ++ u4) ++ u5) ++ u6) ++ u7) ++ u8) ++ u9) (zs := [.int .i64 0] ++ ([.int .i64 0, .int .i64 0, .int .i64 0, .int .i64 0, .slice none 0 0, .slice none 0 0, .slice none 0 0, .slice none 0 0] ++ ([.int .i64 0] ++ ([.int .i64 0] ++ ([.int .i64 0] ++ ([.slice none 0 0] ++ ([.int .i64 0, .int .i64 0, .int .i64 0, .int .i64 0, .int .i64 0, .int .i64 0, .int .i64 0, .int .i64 0] ++ ([.int .i64 0, .int .i64 0, .int .i64 0, .int .i64 0, .int .i64 0, .int .i64 0, .int .i64 0, .int .i64 0] ++ ([.int .i64 0] ++ ([.int .i64 0] ++ [])))))))))) (z := .agg #[.int .i64 0, .int .i64 0, .int .i64 0, .int .i64 0, .int .i64 0, .slice none 0 0, .slice none 0 0, .slice none 0 0, .slice none 0 0, .int .i64 0, .int .i64 0, .int .i64 0, .slice none 0 0, .int .i64 0, .int .i64 0, .int .i64 0, .int .i64 0, .int .i64 0, .int .i64 0, .int .i64 0, .int .i64 0, .int .i64 0, .int .i64 0, .int .i64 0, .int .i64 0, .int .i64 0, .int .i64 0, .int .i64 0, .int .i64 0, .int .i64 0, .int .i64 0]) (N := 39) rfl rfl (by decide) (by kernel_rfl) (by kernel_rfl) ?_
  intro a W S
  refine st_copy (pre := []) (post := u1 ++ (u2 ++ (u3 ++ (u4 ++ (u5 ++ (u6 ++ (u7 ++ (u8 ++ (u9))))))))) S (by decide) (by kernel_rfl) (by kernel_rfl) ⟨by kernel_rfl, by kernel_rfl⟩ cInt x0 h0 (fun _ _ => h0) rfl (by simp only [List.append_assoc, List.nil_append]) rfl rfl ?_
  intro a W S
  refine st_call (n := 8) (pre := [] ++ u0) (post := u2 ++ (u3 ++ (u4 ++ (u5 ++ (u6 ++ (u7 ++ (u8 ++ (u9)))))))) S (by decide) (by kernel_rfl) (by kernel_rfl) cKeep x1 vA rfl (Or.inl ⟨rfl, ⟨by kernel_rfl, by kernel_rfl⟩⟩) ⟨_, Tryz.func62, by kernel_rfl, by kernel_rfl⟩ toKeep_c (by kernel_rfl) h1 t1 (by simp only [List.append_assoc, List.nil_append]) (by simp only [List.length_append, List.length_nil, l0]) rfl ?_
  intro a W S
  refine st_copy (pre := ([] ++ u0) ++ u1) (post := u3 ++ (u4 ++ (u5 ++ (u6 ++ (u7 ++ (u8 ++ (u9))))))) S (by decide) (by kernel_rfl) (by kernel_rfl) ⟨by kernel_rfl, by kernel_rfl⟩ cInt x2 h2 (fun _ _ => h2) rfl (by simp only [List.append_assoc, List.nil_append]) (by simp only [List.length_append, List.length_nil, l0, l1]) rfl ?_
  intro a W S
  refine st_copy (pre := (([] ++ u0) ++ u1) ++ u2) (post := u4 ++ (u5 ++ (u6 ++ (u7 ++ (u8 ++ (u9)))))) S (by decide) (by kernel_rfl) (by kernel_rfl) ⟨by kernel_rfl, by kernel_rfl⟩ cInt x3 h3 (fun _ _ => h3) rfl (by simp only [List.append_assoc, List.nil_append]) (by simp only [List.length_append, List.length_nil, l0, l1, l2]) rfl ?_
  intro a W S
  refine st_copy (pre := ((([] ++ u0) ++ u1) ++ u2) ++ u3) (post := u5 ++ (u6 ++ (u7 ++ (u8 ++ (u9))))) S (by decide) (by kernel_rfl) (by kernel_rfl) ⟨by kernel_rfl, by kernel_rfl⟩ cInt x4 h4 (fun _ _ => h4) rfl (by simp only [List.append_assoc, List.nil_append]) (by simp only [List.length_append, List.length_nil, l0, l1, l2, l3]) rfl ?_
  intro a W S
  refine st_call (n := 1) (pre := (((([] ++ u0) ++ u1) ++ u2) ++ u3) ++ u4) (post := u6 ++ (u7 ++ (u8 ++ (u9)))) S (by decide) (by kernel_rfl) (by kernel_rfl) cIntS x5 v1 rfl (Or.inr ⟨rfl, ⟨by kernel_rfl, by kernel_rfl⟩, rfl⟩) ⟨_, Tryz.func34, by kernel_rfl, by kernel_rfl⟩ toIntS_c (by kernel_rfl) h5 t5 (by simp only [List.append_assoc, List.nil_append]) (by simp only [List.length_append, List.length_nil, l0, l1, l2, l3, l4]) rfl ?_
  intro a W S
  refine st_call (n := 8) (pre := ((((([] ++ u0) ++ u1) ++ u2) ++ u3) ++ u4) ++ u5) (post := u7 ++ (u8 ++ (u9))) S (by decide) (by kernel_rfl) (by kernel_rfl) cIntA8 x6 vA rfl (Or.inl ⟨rfl, ⟨by kernel_rfl, by kernel_rfl⟩⟩) ⟨_, Tryz.func63, by kernel_rfl, by kernel_rfl⟩ toIntA8_c (by kernel_rfl) h6 t6 (by simp only [List.append_assoc, List.nil_append]) (by simp only [List.length_append, List.length_nil, l0, l1, l2, l3, l4, l5]) rfl ?_
  intro a W S
  refine st_call (n := 8) (pre := (((((([] ++ u0) ++ u1) ++ u2) ++ u3) ++ u4) ++ u5) ++ u6) (post := u8 ++ (u9)) S (by decide) (by kernel_rfl) (by kernel_rfl) cIntA8 x7 vA rfl (Or.inl ⟨rfl, ⟨by kernel_rfl, by kernel_rfl⟩⟩) ⟨_, Tryz.func63, by kernel_rfl, by kernel_rfl⟩ toIntA8_c (by kernel_rfl) h7 t7 (by simp only [List.append_assoc, List.nil_append]) (by simp only [List.length_append, List.length_nil, l0, l1, l2, l3, l4, l5, l6]) rfl ?_
  intro a W S
  refine st_copy (pre := ((((((([] ++ u0) ++ u1) ++ u2) ++ u3) ++ u4) ++ u5) ++ u6) ++ u7) (post := u9) S (by decide) (by kernel_rfl) (by kernel_rfl) ⟨by kernel_rfl, by kernel_rfl⟩ cInt x8 h8 (fun _ _ => h8) rfl (by simp only [List.append_assoc, List.nil_append]) (by simp only [List.length_append, List.length_nil, l0, l1, l2, l3, l4, l5, l6, l7]) rfl ?_
  intro a W S
  refine st_copy (pre := (((((((([] ++ u0) ++ u1) ++ u2) ++ u3) ++ u4) ++ u5) ++ u6) ++ u7) ++ u8) (post := []) S (by decide) (by kernel_rfl) (by kernel_rfl) ⟨by kernel_rfl, by kernel_rfl⟩ cInt x9 h9 (fun _ _ => h9) rfl (by simp only [List.append_assoc, List.nil_append, List.append_nil]) (by simp only [List.length_append, List.length_nil, l0, l1, l2, l3, l4, l5, l6, l7, l8]) rfl ?_
  intro a W S
  refine st_tail (n := 31) S (by decide) ⟨by kernel_rfl, by kernel_rfl⟩ (by kernel_rfl) (by kernel_rfl) rfl ?_
  intro vs V hr hb
  exact ⟨vs, rfl, hr, hb⟩
set_option maxRecDepth 10000 in
set_option maxHeartbeats 2000000 in
theorem toAddr_c : ToC Tryz.prog cAddr vA 103 := by
  intro vs x w hr ht
  obtain ⟨⟨⟨_, x0⟩, x1⟩, x2⟩ := x
  obtain ⟨_, u2, rfl, ⟨_, u1, rfl, ⟨_, u0, rfl, rfl, h0⟩, h1⟩, h2⟩ := hr
  obtain ⟨ht, t2⟩ := tot_two ht
  obtain ⟨ht, t1⟩ := tot_two ht
  obtain ⟨ht, t0⟩ := tot_two ht
  have l0 : u0.length = 1 := cBool.len h0
  have l1 : u1.length = 1 := cInt.len h1
  have l2 : u2.length = 1 := cInt.len h2
  refine calls_of_wp Tryz.func103 rfl ?_
  refine st_head (us := (([] ++ u0) ++ u1) ++ u2) (zs := [.bool false] ++ ([.int .i64 0] ++ ([.int .i64 0] ++ []))) (z := .agg #[.bool false, .int .i64 0, .int .i64 0]) (N := 14) rfl rfl (by decide) (by kernel_rfl) (by kernel_rfl) ?_
  intro a W S
  refine st_copy (pre := []) (post := u1 ++ (u2)) S (by decide) (by kernel_rfl) (by kernel_rfl) ⟨by kernel_rfl, by kernel_rfl⟩ cBool x0 h0 (fun _ _ => h0) rfl (by simp only [List.append_assoc, List.nil_append]) rfl rfl ?_
  intro a W S
  refine st_copy (pre := [] ++ u0) (post := u2) S (by decide) (by kernel_rfl) (by kernel_rfl) ⟨by kernel_rfl, by kernel_rfl⟩ cInt x1 h1 (fun _ _ => h1) rfl (by simp only [List.append_assoc, List.nil_append]) (by simp only [List.length_append, List.length_nil, l0]) rfl ?_
  intro a W S
  refine st_copy (pre := ([] ++ u0) ++ u1) (post := []) S (by decide) (by kernel_rfl) (by kernel_rfl) ⟨by kernel_rfl, by kernel_rfl⟩ cInt x2 h2 (fun _ _ => h2) rfl (by simp only [List.append_assoc, List.nil_append, List.append_nil]) (by simp only [List.length_append, List.length_nil, l0, l1]) rfl ?_
  intro a W S
  refine st_tail (n := 3) S (by decide) ⟨by kernel_rfl, by kernel_rfl⟩ (by kernel_rfl) (by kernel_rfl) rfl ?_
  intro vs V hr hb
  exact ⟨vs, rfl, hr, hb⟩
set_option maxRecDepth 10000 in
set_option maxHeartbeats 2000000 in
theorem toPrefix_c : ToC Tryz.prog cPrefix vA 102 := by
  intro vs x w hr ht
  obtain ⟨⟨_, x0⟩, x1⟩ := x
  obtain ⟨_, u1, rfl, ⟨_, u0, rfl, rfl, h0⟩, h1⟩ := hr
  obtain ⟨ht, t1⟩ := tot_two ht
  obtain ⟨ht, t0⟩ := tot_two ht
  have l0 : u0.length = 3 := cAddr.len h0
  have l1 : u1.length = 1 := cInt.len h1
  refine calls_of_wp Tryz.func102 rfl ?_
  refine st_head (us := ([] ++ u0) ++ u1) (zs := [.bool false, .int .i64 0, .int .i64 0] ++ ([.int .i64 0] ++ [])) (z := .agg #[.bool false, .int .i64 0, .int .i64 0, .int .i64 0]) (N := 12) rfl rfl (by decide) (by kernel_rfl) (by kernel_rfl) ?_
  intro a W S
  refine st_call (n := 3) (pre := []) (post := u1) S (by decide) (by kernel_rfl) (by kernel_rfl) cAddr x0 vA rfl (Or.inl ⟨rfl, ⟨by kernel_rfl, by kernel_rfl⟩⟩) ⟨_, Tryz.func103, by kernel_rfl, by kernel_rfl⟩ toAddr_c (by kernel_rfl) h0 t0 (by simp only [List.nil_append]) rfl rfl ?_
  intro a W S
  refine st_copy (pre := [] ++ u0) (post := []) S (by decide) (by kernel_rfl) (by kernel_rfl) ⟨by kernel_rfl, by kernel_rfl⟩ cInt x1 h1 (fun _ _ => h1) rfl (by simp only [List.nil_append, List.append_nil]) (by simp only [List.length_append, List.length_nil, l0]) rfl ?_
  intro a W S
  refine st_tail (n := 4) S (by decide) ⟨by kernel_rfl, by kernel_rfl⟩ (by kernel_rfl) (by kernel_rfl) rfl ?_
  intro vs V hr hb
  exact ⟨vs, rfl, hr, hb⟩
set_option maxRecDepth 10000 in
set_option maxHeartbeats 2000000 in
theorem toPool_c : ToC Tryz.prog cPool vA 94 := by
  intro vs x w hr ht
  obtain ⟨⟨_, x0⟩, x1⟩ := x
  obtain ⟨_, u1, rfl, ⟨_, u0, rfl, rfl, h0⟩, h1⟩ := hr
  obtain ⟨ht, t1⟩ := tot_two ht
  obtain ⟨ht, t0⟩ := tot_two ht
  have l0 : u0.length = 4 := cPrefix.len h0
  have l1 : u1.length = 1 := cInt.len h1
  refine calls_of_wp Tryz.func94 rfl ?_
  refine st_head (us := ([] ++ u0) ++ u1) (zs := [.bool false, .int .i64 0, .int .i64 0, .int .i64 0] ++ ([.int .i64 0] ++ [])) (z := .agg #[.bool false, .int .i64 0, .int .i64 0, .int .i64 0, .int .i64 0]) (N := 12) rfl rfl (by decide) (by kernel_rfl) (by kernel_rfl) ?_
  intro a W S
  refine st_call (n := 4) (pre := []) (post := u1) S (by decide) (by kernel_rfl) (by kernel_rfl) cPrefix x0 vA rfl (Or.inl ⟨rfl, ⟨by kernel_rfl, by kernel_rfl⟩⟩) ⟨_, Tryz.func102, by kernel_rfl, by kernel_rfl⟩ toPrefix_c (by kernel_rfl) h0 t0 (by simp only [List.nil_append]) rfl rfl ?_
  intro a W S
  refine st_copy (pre := [] ++ u0) (post := []) S (by decide) (by kernel_rfl) (by kernel_rfl) ⟨by kernel_rfl, by kernel_rfl⟩ cInt x1 h1 (fun _ _ => h1) rfl (by simp only [List.nil_append, List.append_nil]) (by simp only [List.length_append, List.length_nil, l0]) rfl ?_
  intro a W S
  refine st_tail (n := 5) S (by decide) ⟨by kernel_rfl, by kernel_rfl⟩ (by kernel_rfl) (by kernel_rfl) rfl ?_
  intro vs V hr hb
  exact ⟨vs, rfl, hr, hb⟩
set_option maxRecDepth 10000 in
set_option maxHeartbeats 2000000 in
theorem toPoolS_c : ToC Tryz.prog cPoolS v1 79 := by
  rintro vs xs w ⟨o, c, rfl, hl, hr⟩ ht
  have h0 := sumT_nn cPool.nn xs
  have h1 : (xs.length : Int) + sumT cPool.tot xs ≤ 1048576 := ht
  show Calls _ _ #[.slice o xs.length c] w _
  refine calls_of_wp Tryz.func79 rfl ?_
  exact row_to (T := cPool) (N := 23) (k := 5) (eO := 117) rfl (by decide) rfl (by kernel_rfl) (by kernel_rfl) (by kernel_rfl) rfl w o xs.length c xs rfl (by omega) (fun i a W hi h Q q => body_toC (eA := 193) (eO := 117) (by decide) (by kernel_rfl) (by kernel_rfl) (by kernel_rfl) (by kernel_rfl) rfl ⟨by kernel_rfl, by kernel_rfl⟩ (by kernel_rfl) ⟨_, Tryz.func94, by kernel_rfl, by kernel_rfl⟩ toPool_c rfl hr (fun x hx => by have := sumT_mem cPool.nn hx; omega) i a W hi h Q q)
set_option maxRecDepth 10000 in
set_option maxHeartbeats 2000000 in
theorem toBlock_c : ToC Tryz.prog cBlock vA 95 := by
  intro vs x w hr ht
  obtain ⟨⟨_, x0⟩, x1⟩ := x
  obtain ⟨_, u1, rfl, ⟨_, u0, rfl, rfl, h0⟩, h1⟩ := hr
  obtain ⟨ht, t1⟩ := tot_two ht
  obtain ⟨ht, t0⟩ := tot_two ht
  have l0 : u0.length = 4 := cPrefix.len h0
  have l1 : u1.length = 1 := cStr.len h1
  refine calls_of_wp Tryz.func95 rfl ?_
  refine st_head (us := ([] ++ u0) ++ u1) (zs := [.bool false, .int .i64 0, .int .i64 0, .int .i64 0] ++ ([.string ByteArray.empty] ++ [])) (z := .agg #[.bool false, .int .i64 0, .int .i64 0, .int .i64 0, .string ByteArray.empty]) (N := 12) rfl rfl (by decide) (by kernel_rfl) (by kernel_rfl) ?_
  intro a W S
  refine st_call (n := 4) (pre := []) (post := u1) S (by decide) (by kernel_rfl) (by kernel_rfl) cPrefix x0 vA rfl (Or.inl ⟨rfl, ⟨by kernel_rfl, by kernel_rfl⟩⟩) ⟨_, Tryz.func102, by kernel_rfl, by kernel_rfl⟩ toPrefix_c (by kernel_rfl) h0 t0 (by simp only [List.nil_append]) rfl rfl ?_
  intro a W S
  refine st_copy (pre := [] ++ u0) (post := []) S (by decide) (by kernel_rfl) (by kernel_rfl) ⟨by kernel_rfl, by kernel_rfl⟩ cStr x1 h1 (fun _ _ => h1) rfl (by simp only [List.nil_append, List.append_nil]) (by simp only [List.length_append, List.length_nil, l0]) rfl ?_
  intro a W S
  refine st_tail (n := 5) S (by decide) ⟨by kernel_rfl, by kernel_rfl⟩ (by kernel_rfl) (by kernel_rfl) rfl ?_
  intro vs V hr hb
  exact ⟨vs, rfl, hr, hb⟩
set_option maxRecDepth 10000 in
set_option maxHeartbeats 2000000 in
theorem toBlockS_c : ToC Tryz.prog cBlockS v1 80 := by
  rintro vs xs w ⟨o, c, rfl, hl, hr⟩ ht
  have h0 := sumT_nn cBlock.nn xs
  have h1 : (xs.length : Int) + sumT cBlock.tot xs ≤ 1048576 := ht
  show Calls _ _ #[.slice o xs.length c] w _
  refine calls_of_wp Tryz.func80 rfl ?_
  exact row_to (T := cBlock) (N := 23) (k := 5) (eO := 119) rfl (by decide) rfl (by kernel_rfl) (by kernel_rfl) (by kernel_rfl) rfl w o xs.length c xs rfl (by omega) (fun i a W hi h Q q => body_toC (eA := 185) (eO := 119) (by decide) (by kernel_rfl) (by kernel_rfl) (by kernel_rfl) (by kernel_rfl) rfl ⟨by kernel_rfl, by kernel_rfl⟩ (by kernel_rfl) ⟨_, Tryz.func95, by kernel_rfl, by kernel_rfl⟩ toBlock_c rfl hr (fun x hx => by have := sumT_mem cBlock.nn hx; omega) i a W hi h Q q)
set_option maxRecDepth 10000 in
set_option maxHeartbeats 2000000 in
theorem toPlan_c : ToC Tryz.prog cPlan vA 64 := by
  intro vs x w hr ht
  obtain ⟨⟨_, x0⟩, x1⟩ := x
  obtain ⟨_, u1, rfl, ⟨_, u0, rfl, rfl, h0⟩, h1⟩ := hr
  obtain ⟨ht, t1⟩ := tot_two ht
  obtain ⟨ht, t0⟩ := tot_two ht
  have l0 : u0.length = 1 := cPoolS.len h0
  have l1 : u1.length = 1 := cBlockS.len h1
  refine calls_of_wp Tryz.func64 rfl ?_
  refine st_head (us := ([] ++ u0) ++ u1) (zs := [.slice none 0 0] ++ ([.slice none 0 0] ++ [])) (z := .agg #[.slice none 0 0, .slice none 0 0]) (N := 13) rfl rfl (by decide) (by kernel_rfl) (by kernel_rfl) ?_
  intro a W S
  refine st_call (n := 1) (pre := []) (post := u1) S (by decide) (by kernel_rfl) (by kernel_rfl) cPoolS x0 v1 rfl (Or.inr ⟨rfl, ⟨by kernel_rfl, by kernel_rfl⟩, rfl⟩) ⟨_, Tryz.func79, by kernel_rfl, by kernel_rfl⟩ toPoolS_c (by kernel_rfl) h0 t0 (by simp only [List.nil_append]) rfl rfl ?_
  intro a W S
  refine st_call (n := 1) (pre := [] ++ u0) (post := []) S (by decide) (by kernel_rfl) (by kernel_rfl) cBlockS x1 v1 rfl (Or.inr ⟨rfl, ⟨by kernel_rfl, by kernel_rfl⟩, rfl⟩) ⟨_, Tryz.func80, by kernel_rfl, by kernel_rfl⟩ toBlockS_c (by kernel_rfl) h1 t1 (by simp only [List.nil_append, List.append_nil]) (by simp only [List.length_append, List.length_nil, l0]) rfl ?_
  intro a W S
  refine st_tail (n := 2) S (by decide) ⟨by kernel_rfl, by kernel_rfl⟩ (by kernel_rfl) (by kernel_rfl) rfl ?_
  intro vs V hr hb
  exact ⟨vs, rfl, hr, hb⟩
set_option maxRecDepth 10000 in
set_option maxHeartbeats 2000000 in
theorem toLease_c : ToC Tryz.prog cLease vA 96 := by
  intro vs x w hr ht
  obtain ⟨⟨⟨⟨_, x0⟩, x1⟩, x2⟩, x3⟩ := x
  obtain ⟨_, u3, rfl, ⟨_, u2, rfl, ⟨_, u1, rfl, ⟨_, u0, rfl, rfl, h0⟩, h1⟩, h2⟩, h3⟩ := hr
  obtain ⟨ht, t3⟩ := tot_two ht
  obtain ⟨ht, t2⟩ := tot_two ht
  obtain ⟨ht, t1⟩ := tot_two ht
  obtain ⟨ht, t0⟩ := tot_two ht
  have l0 : u0.length = 3 := cAddr.len h0
  have l1 : u1.length = 1 := cStr.len h1
  have l2 : u2.length = 1 := cInt.len h2
  have l3 : u3.length = 1 := cInt.len h3
  refine calls_of_wp Tryz.func96 rfl ?_
  refine st_head (us := ((([] ++ u0) ++ u1) ++ u2) ++ u3) (zs := [.bool false, .int .i64 0, .int .i64 0] ++ ([.string ByteArray.empty] ++ ([.int .i64 0] ++ ([.int .i64 0] ++ [])))) (z := .agg #[.bool false, .int .i64 0, .int .i64 0, .string ByteArray.empty, .int .i64 0, .int .i64 0]) (N := 18) rfl rfl (by decide) (by kernel_rfl) (by kernel_rfl) ?_
  intro a W S
  refine st_call (n := 3) (pre := []) (post := u1 ++ (u2 ++ (u3))) S (by decide) (by kernel_rfl) (by kernel_rfl) cAddr x0 vA rfl (Or.inl ⟨rfl, ⟨by kernel_rfl, by kernel_rfl⟩⟩) ⟨_, Tryz.func103, by kernel_rfl, by kernel_rfl⟩ toAddr_c (by kernel_rfl) h0 t0 (by simp only [List.append_assoc, List.nil_append]) rfl rfl ?_
  intro a W S
  refine st_copy (pre := [] ++ u0) (post := u2 ++ (u3)) S (by decide) (by kernel_rfl) (by kernel_rfl) ⟨by kernel_rfl, by kernel_rfl⟩ cStr x1 h1 (fun _ _ => h1) rfl (by simp only [List.append_assoc, List.nil_append]) (by simp only [List.length_append, List.length_nil, l0]) rfl ?_
  intro a W S
  refine st_copy (pre := ([] ++ u0) ++ u1) (post := u3) S (by decide) (by kernel_rfl) (by kernel_rfl) ⟨by kernel_rfl, by kernel_rfl⟩ cInt x2 h2 (fun _ _ => h2) rfl (by simp only [List.append_assoc, List.nil_append]) (by simp only [List.length_append, List.length_nil, l0, l1]) rfl ?_
  intro a W S
  refine st_copy (pre := (([] ++ u0) ++ u1) ++ u2) (post := []) S (by decide) (by kernel_rfl) (by kernel_rfl) ⟨by kernel_rfl, by kernel_rfl⟩ cInt x3 h3 (fun _ _ => h3) rfl (by simp only [List.append_assoc, List.nil_append, List.append_nil]) (by simp only [List.length_append, List.length_nil, l0, l1, l2]) rfl ?_
  intro a W S
  refine st_tail (n := 6) S (by decide) ⟨by kernel_rfl, by kernel_rfl⟩ (by kernel_rfl) (by kernel_rfl) rfl ?_
  intro vs V hr hb
  exact ⟨vs, rfl, hr, hb⟩
set_option maxRecDepth 10000 in
set_option maxHeartbeats 2000000 in
theorem toLeaseS_c : ToC Tryz.prog cLeaseS v1 81 := by
  rintro vs xs w ⟨o, c, rfl, hl, hr⟩ ht
  have h0 := sumT_nn cLease.nn xs
  have h1 : (xs.length : Int) + sumT cLease.tot xs ≤ 1048576 := ht
  show Calls _ _ #[.slice o xs.length c] w _
  refine calls_of_wp Tryz.func81 rfl ?_
  exact row_to (T := cLease) (N := 23) (k := 6) (eO := 121) rfl (by decide) rfl (by kernel_rfl) (by kernel_rfl) (by kernel_rfl) rfl w o xs.length c xs rfl (by omega) (fun i a W hi h Q q => body_toC (eA := 188) (eO := 121) (by decide) (by kernel_rfl) (by kernel_rfl) (by kernel_rfl) (by kernel_rfl) rfl ⟨by kernel_rfl, by kernel_rfl⟩ (by kernel_rfl) ⟨_, Tryz.func96, by kernel_rfl, by kernel_rfl⟩ toLease_c rfl hr (fun x hx => by have := sumT_mem cLease.nn hx; omega) i a W hi h Q q)
set_option maxRecDepth 10000 in
set_option maxHeartbeats 2000000 in
theorem toBook_c : ToC Tryz.prog cBook vA 65 := by
  intro vs x w hr ht
  obtain ⟨⟨⟨_, x0⟩, x1⟩, x2⟩ := x
  obtain ⟨_, u2, rfl, ⟨_, u1, rfl, ⟨_, u0, rfl, rfl, h0⟩, h1⟩, h2⟩ := hr
  obtain ⟨ht, t2⟩ := tot_two ht
  obtain ⟨ht, t1⟩ := tot_two ht
  obtain ⟨ht, t0⟩ := tot_two ht
  have l0 : u0.length = 1 := cLeaseS.len h0
  have l1 : u1.length = 1 := cInt.len h1
  have l2 : u2.length = 1 := cInt.len h2
  refine calls_of_wp Tryz.func65 rfl ?_
  refine st_head (us := (([] ++ u0) ++ u1) ++ u2) (zs := [.slice none 0 0] ++ ([.int .i64 0] ++ ([.int .i64 0] ++ []))) (z := .agg #[.slice none 0 0, .int .i64 0, .int .i64 0]) (N := 15) rfl rfl (by decide) (by kernel_rfl) (by kernel_rfl) ?_
  intro a W S
  refine st_call (n := 1) (pre := []) (post := u1 ++ (u2)) S (by decide) (by kernel_rfl) (by kernel_rfl) cLeaseS x0 v1 rfl (Or.inr ⟨rfl, ⟨by kernel_rfl, by kernel_rfl⟩, rfl⟩) ⟨_, Tryz.func81, by kernel_rfl, by kernel_rfl⟩ toLeaseS_c (by kernel_rfl) h0 t0 (by simp only [List.append_assoc, List.nil_append]) rfl rfl ?_
  intro a W S
  refine st_copy (pre := [] ++ u0) (post := u2) S (by decide) (by kernel_rfl) (by kernel_rfl) ⟨by kernel_rfl, by kernel_rfl⟩ cInt x1 h1 (fun _ _ => h1) rfl (by simp only [List.append_assoc, List.nil_append]) (by simp only [List.length_append, List.length_nil, l0]) rfl ?_
  intro a W S
  refine st_copy (pre := ([] ++ u0) ++ u1) (post := []) S (by decide) (by kernel_rfl) (by kernel_rfl) ⟨by kernel_rfl, by kernel_rfl⟩ cInt x2 h2 (fun _ _ => h2) rfl (by simp only [List.append_assoc, List.nil_append, List.append_nil]) (by simp only [List.length_append, List.length_nil, l0, l1]) rfl ?_
  intro a W S
  refine st_tail (n := 3) S (by decide) ⟨by kernel_rfl, by kernel_rfl⟩ (by kernel_rfl) (by kernel_rfl) rfl ?_
  intro vs V hr hb
  exact ⟨vs, rfl, hr, hb⟩
set_option maxRecDepth 10000 in
set_option maxHeartbeats 2000000 in
theorem toSession_c : ToC Tryz.prog cSession vA 97 := by
  intro vs x w hr ht
  obtain ⟨⟨⟨⟨_, x0⟩, x1⟩, x2⟩, x3⟩ := x
  obtain ⟨_, u3, rfl, ⟨_, u2, rfl, ⟨_, u1, rfl, ⟨_, u0, rfl, rfl, h0⟩, h1⟩, h2⟩, h3⟩ := hr
  obtain ⟨ht, t3⟩ := tot_two ht
  obtain ⟨ht, t2⟩ := tot_two ht
  obtain ⟨ht, t1⟩ := tot_two ht
  obtain ⟨ht, t0⟩ := tot_two ht
  have l0 : u0.length = 1 := cInt.len h0
  have l1 : u1.length = 1 := cInt.len h1
  have l2 : u2.length = 1 := cStr.len h2
  have l3 : u3.length = 1 := cInt.len h3
  refine calls_of_wp Tryz.func97 rfl ?_
  refine st_head (us := ((([] ++ u0) ++ u1) ++ u2) ++ u3) (zs := [.int .i64 0] ++ ([.int .i64 0] ++ ([.string ByteArray.empty] ++ ([.int .i64 0] ++ [])))) (z := .agg #[.int .i64 0, .int .i64 0, .string ByteArray.empty, .int .i64 0]) (N := 17) rfl rfl (by decide) (by kernel_rfl) (by kernel_rfl) ?_
  intro a W S
  refine st_copy (pre := []) (post := u1 ++ (u2 ++ (u3))) S (by decide) (by kernel_rfl) (by kernel_rfl) ⟨by kernel_rfl, by kernel_rfl⟩ cInt x0 h0 (fun _ _ => h0) rfl (by simp only [List.append_assoc, List.nil_append]) rfl rfl ?_
  intro a W S
  refine st_copy (pre := [] ++ u0) (post := u2 ++ (u3)) S (by decide) (by kernel_rfl) (by kernel_rfl) ⟨by kernel_rfl, by kernel_rfl⟩ cInt x1 h1 (fun _ _ => h1) rfl (by simp only [List.append_assoc, List.nil_append]) (by simp only [List.length_append, List.length_nil, l0]) rfl ?_
  intro a W S
  refine st_copy (pre := ([] ++ u0) ++ u1) (post := u3) S (by decide) (by kernel_rfl) (by kernel_rfl) ⟨by kernel_rfl, by kernel_rfl⟩ cStr x2 h2 (fun _ _ => h2) rfl (by simp only [List.append_assoc, List.nil_append]) (by simp only [List.length_append, List.length_nil, l0, l1]) rfl ?_
  intro a W S
  refine st_copy (pre := (([] ++ u0) ++ u1) ++ u2) (post := []) S (by decide) (by kernel_rfl) (by kernel_rfl) ⟨by kernel_rfl, by kernel_rfl⟩ cInt x3 h3 (fun _ _ => h3) rfl (by simp only [List.append_assoc, List.nil_append, List.append_nil]) (by simp only [List.length_append, List.length_nil, l0, l1, l2]) rfl ?_
  intro a W S
  refine st_tail (n := 4) S (by decide) ⟨by kernel_rfl, by kernel_rfl⟩ (by kernel_rfl) (by kernel_rfl) rfl ?_
  intro vs V hr hb
  exact ⟨vs, rfl, hr, hb⟩
set_option maxRecDepth 10000 in
set_option maxHeartbeats 2000000 in
theorem toSessionS_c : ToC Tryz.prog cSessionS v1 82 := by
  rintro vs xs w ⟨o, c, rfl, hl, hr⟩ ht
  have h0 := sumT_nn cSession.nn xs
  have h1 : (xs.length : Int) + sumT cSession.tot xs ≤ 1048576 := ht
  show Calls _ _ #[.slice o xs.length c] w _
  refine calls_of_wp Tryz.func82 rfl ?_
  exact row_to (T := cSession) (N := 23) (k := 4) (eO := 123) rfl (by decide) rfl (by kernel_rfl) (by kernel_rfl) (by kernel_rfl) rfl w o xs.length c xs rfl (by omega) (fun i a W hi h Q q => body_toC (eA := 190) (eO := 123) (by decide) (by kernel_rfl) (by kernel_rfl) (by kernel_rfl) (by kernel_rfl) rfl ⟨by kernel_rfl, by kernel_rfl⟩ (by kernel_rfl) ⟨_, Tryz.func97, by kernel_rfl, by kernel_rfl⟩ toSession_c rfl hr (fun x hx => by have := sumT_mem cSession.nn hx; omega) i a W hi h Q q)
set_option maxRecDepth 10000 in
set_option maxHeartbeats 2000000 in
theorem toDesk_c : ToC Tryz.prog cDesk vA 66 := by
  intro vs x w hr ht
  obtain ⟨⟨_, x0⟩, x1⟩ := x
  obtain ⟨_, u1, rfl, ⟨_, u0, rfl, rfl, h0⟩, h1⟩ := hr
  obtain ⟨ht, t1⟩ := tot_two ht
  obtain ⟨ht, t0⟩ := tot_two ht
  have l0 : u0.length = 1 := cSessionS.len h0
  have l1 : u1.length = 1 := cInt.len h1
  refine calls_of_wp Tryz.func66 rfl ?_
  refine st_head (us := ([] ++ u0) ++ u1) (zs := [.slice none 0 0] ++ ([.int .i64 0] ++ [])) (z := .agg #[.slice none 0 0, .int .i64 0]) (N := 12) rfl rfl (by decide) (by kernel_rfl) (by kernel_rfl) ?_
  intro a W S
  refine st_call (n := 1) (pre := []) (post := u1) S (by decide) (by kernel_rfl) (by kernel_rfl) cSessionS x0 v1 rfl (Or.inr ⟨rfl, ⟨by kernel_rfl, by kernel_rfl⟩, rfl⟩) ⟨_, Tryz.func82, by kernel_rfl, by kernel_rfl⟩ toSessionS_c (by kernel_rfl) h0 t0 (by simp only [List.nil_append]) rfl rfl ?_
  intro a W S
  refine st_copy (pre := [] ++ u0) (post := []) S (by decide) (by kernel_rfl) (by kernel_rfl) ⟨by kernel_rfl, by kernel_rfl⟩ cInt x1 h1 (fun _ _ => h1) rfl (by simp only [List.nil_append, List.append_nil]) (by simp only [List.length_append, List.length_nil, l0]) rfl ?_
  intro a W S
  refine st_tail (n := 2) S (by decide) ⟨by kernel_rfl, by kernel_rfl⟩ (by kernel_rfl) (by kernel_rfl) rfl ?_
  intro vs V hr hb
  exact ⟨vs, rfl, hr, hb⟩
set_option maxRecDepth 10000 in
set_option maxHeartbeats 2000000 in
theorem toState_c : ToC Tryz.prog cState vA 50 := by
  intro vs x w hr ht
  obtain ⟨⟨⟨⟨_, x0⟩, x1⟩, x2⟩, x3⟩ := x
  obtain ⟨_, u3, rfl, ⟨_, u2, rfl, ⟨_, u1, rfl, ⟨_, u0, rfl, rfl, h0⟩, h1⟩, h2⟩, h3⟩ := hr
  obtain ⟨ht, t3⟩ := tot_two ht
  obtain ⟨ht, t2⟩ := tot_two ht
  obtain ⟨ht, t1⟩ := tot_two ht
  obtain ⟨ht, t0⟩ := tot_two ht
  have l0 : u0.length = 2 := cPlan.len h0
  have l1 : u1.length = 3 := cBook.len h1
  have l2 : u2.length = 2 := cDesk.len h2
  have l3 : u3.length = 1 := cInt.len h3
  refine calls_of_wp Tryz.func50 rfl ?_
  refine st_head (us := ((([] ++ u0) ++ u1) ++ u2) ++ u3) (zs := [.slice none 0 0, .slice none 0 0] ++ ([.slice none 0 0, .int .i64 0, .int .i64 0] ++ ([.slice none 0 0, .int .i64 0] ++ ([.int .i64 0] ++ [])))) (z := .agg #[.slice none 0 0, .slice none 0 0, .slice none 0 0, .int .i64 0, .int .i64 0, .slice none 0 0, .int .i64 0, .int .i64 0]) (N := 20) rfl rfl (by decide) (by kernel_rfl) (by kernel_rfl) ?_
  intro a W S
  refine st_call (n := 2) (pre := []) (post := u1 ++ (u2 ++ (u3))) S (by decide) (by kernel_rfl) (by kernel_rfl) cPlan x0 vA rfl (Or.inl ⟨rfl, ⟨by kernel_rfl, by kernel_rfl⟩⟩) ⟨_, Tryz.func64, by kernel_rfl, by kernel_rfl⟩ toPlan_c (by kernel_rfl) h0 t0 (by simp only [List.append_assoc, List.nil_append]) rfl rfl ?_
  intro a W S
  refine st_call (n := 3) (pre := [] ++ u0) (post := u2 ++ (u3)) S (by decide) (by kernel_rfl) (by kernel_rfl) cBook x1 vA rfl (Or.inl ⟨rfl, ⟨by kernel_rfl, by kernel_rfl⟩⟩) ⟨_, Tryz.func65, by kernel_rfl, by kernel_rfl⟩ toBook_c (by kernel_rfl) h1 t1 (by simp only [List.append_assoc, List.nil_append]) (by simp only [List.length_append, List.length_nil, l0]) rfl ?_
  intro a W S
  refine st_call (n := 2) (pre := ([] ++ u0) ++ u1) (post := u3) S (by decide) (by kernel_rfl) (by kernel_rfl) cDesk x2 vA rfl (Or.inl ⟨rfl, ⟨by kernel_rfl, by kernel_rfl⟩⟩) ⟨_, Tryz.func66, by kernel_rfl, by kernel_rfl⟩ toDesk_c (by kernel_rfl) h2 t2 (by simp only [List.append_assoc, List.nil_append]) (by simp only [List.length_append, List.length_nil, l0, l1]) rfl ?_
  intro a W S
  refine st_copy (pre := (([] ++ u0) ++ u1) ++ u2) (post := []) S (by decide) (by kernel_rfl) (by kernel_rfl) ⟨by kernel_rfl, by kernel_rfl⟩ cInt x3 h3 (fun _ _ => h3) rfl (by simp only [List.append_assoc, List.nil_append, List.append_nil]) (by simp only [List.length_append, List.length_nil, l0, l1, l2]) rfl ?_
  intro a W S
  refine st_tail (n := 8) S (by decide) ⟨by kernel_rfl, by kernel_rfl⟩ (by kernel_rfl) (by kernel_rfl) rfl ?_
  intro vs V hr hb
  exact ⟨vs, rfl, hr, hb⟩
set_option maxRecDepth 10000 in
set_option maxHeartbeats 2000000 in
theorem toFile_c : ToC Tryz.prog cFile vA 51 := by
  intro vs x w hr ht
  obtain ⟨⟨_, x0⟩, x1⟩ := x
  obtain ⟨_, u1, rfl, ⟨_, u0, rfl, rfl, h0⟩, h1⟩ := hr
  obtain ⟨ht, t1⟩ := tot_two ht
  obtain ⟨ht, t0⟩ := tot_two ht
  have l0 : u0.length = 1 := cByteS.len h0
  have l1 : u1.length = 1 := cInt.len h1
  refine calls_of_wp Tryz.func51 rfl ?_
  refine st_head (us := ([] ++ u0) ++ u1) (zs := [.slice none 0 0] ++ ([.int .i64 0] ++ [])) (z := .agg #[.slice none 0 0, .int .i64 0]) (N := 12) rfl rfl (by decide) (by kernel_rfl) (by kernel_rfl) ?_
  intro a W S
  refine st_call (n := 1) (pre := []) (post := u1) S (by decide) (by kernel_rfl) (by kernel_rfl) cByteS x0 v1 rfl (Or.inr ⟨rfl, ⟨by kernel_rfl, by kernel_rfl⟩, rfl⟩) ⟨_, Tryz.func52, by kernel_rfl, by kernel_rfl⟩ toByteS_c (by kernel_rfl) h0 t0 (by simp only [List.nil_append]) rfl rfl ?_
  intro a W S
  refine st_copy (pre := [] ++ u0) (post := []) S (by decide) (by kernel_rfl) (by kernel_rfl) ⟨by kernel_rfl, by kernel_rfl⟩ cInt x1 h1 (fun _ _ => h1) rfl (by simp only [List.nil_append, List.append_nil]) (by simp only [List.length_append, List.length_nil, l0]) rfl ?_
  intro a W S
  refine st_tail (n := 2) S (by decide) ⟨by kernel_rfl, by kernel_rfl⟩ (by kernel_rfl) (by kernel_rfl) rfl ?_
  intro vs V hr hb
  exact ⟨vs, rfl, hr, hb⟩
set_option maxRecDepth 10000 in
set_option maxHeartbeats 2000000 in
theorem toReplica_c : ToC Tryz.prog cReplica vA 33 := by
  intro vs x w hr ht
  obtain ⟨⟨⟨⟨⟨_, x0⟩, x1⟩, x2⟩, x3⟩, x4⟩ := x
  obtain ⟨_, u4, rfl, ⟨_, u3, rfl, ⟨_, u2, rfl, ⟨_, u1, rfl, ⟨_, u0, rfl, rfl, h0⟩, h1⟩, h2⟩, h3⟩, h4⟩ := hr
  obtain ⟨ht, t4⟩ := tot_two ht
  obtain ⟨ht, t3⟩ := tot_two ht
  obtain ⟨ht, t2⟩ := tot_two ht
  obtain ⟨ht, t1⟩ := tot_two ht
  obtain ⟨ht, t0⟩ := tot_two ht
  have l0 : u0.length = 31 := cServer.len h0
  have l1 : u1.length = 8 := cState.len h1
  have l2 : u2.length = 1 := cInt.len h2
  have l3 : u3.length = 2 := cFile.len h3
  have l4 : u4.length = 1 := cBool.len h4
  refine calls_of_wp Tryz.func33 rfl ?_
  refine st_head (us := (((([] ++ u0) ++ u1) ++ u2) ++ u3) ++ u4) (zs := [.int .i64 0, .int .i64 0, .int .i64 0, .int .i64 0, .int .i64 0, .slice none 0 0, .slice none 0 0, .slice none 0 0, .slice none 0 0, .int .i64 0, .int .i64 0, .int .i64 0, .slice none 0 0, .int .i64 0, .int .i64 0, .int .i64 0, .int .i64 0, .int .i64 0, .int .i64 0, .int .i64 0, .int .i64 0, .int .i64 0, .int .i64 0, .int .i64 0, .int .i64 0, .int .i64 0, .int .i64 0, .int .i64 0, .int .i64 0, .int .i64 0, .int .i64 0] ++ ([.slice none 0 0, .slice none 0 0, .slice none 0 0, .int .i64 0, .int .i64 0, .slice none 0 0, .int .i64 0, .int .i64 0] ++ ([.int .i64 0] ++ ([.slice none 0 0, .int .i64 0] ++ ([.bool false] ++ []))))) (z := .agg #[.int .i64 0, .int .i64 0, .int .i64 0, .int .i64 0, .int .i64 0, .slice none 0 0, .slice none 0 0, .slice none 0 0, .slice none 0 0, .int .i64 0, .int .i64 0, .int .i64 0, .slice none 0 0, .int .i64 0, .int .i64 0, .int .i64 0, .int .i64 0, .int .i64 0, .int .i64 0, .int .i64 0, .int .i64 0, .int .i64 0, .int .i64 0, .int .i64 0, .int .i64 0, .int .i64 0, .int .i64 0, .int .i64 0, .int .i64 0, .int .i64 0, .int .i64 0, .slice none 0 0, .slice none 0 0, .slice none 0 0, .int .i64 0, .int .i64 0, .slice none 0 0, .int .i64 0, .int .i64 0, .int .i64 0, .slice none 0 0, .int .i64 0, .bool false]) (N := 23) rfl rfl (by decide) (by kernel_rfl) (by kernel_rfl) ?_
  intro a W S
  refine st_call (n := 31) (pre := []) (post := u1 ++ (u2 ++ (u3 ++ (u4)))) S (by decide) (by kernel_rfl) (by kernel_rfl) cServer x0 vA rfl (Or.inl ⟨rfl, ⟨by kernel_rfl, by kernel_rfl⟩⟩) ⟨_, Tryz.func49, by kernel_rfl, by kernel_rfl⟩ toServer_c (by kernel_rfl) h0 t0 (by simp only [List.append_assoc, List.nil_append]) rfl rfl ?_
  intro a W S
  refine st_call (n := 8) (pre := [] ++ u0) (post := u2 ++ (u3 ++ (u4))) S (by decide) (by kernel_rfl) (by kernel_rfl) cState x1 vA rfl (Or.inl ⟨rfl, ⟨by kernel_rfl, by kernel_rfl⟩⟩) ⟨_, Tryz.func50, by kernel_rfl, by kernel_rfl⟩ toState_c (by kernel_rfl) h1 t1 (by simp only [List.append_assoc, List.nil_append]) (by simp only [List.length_append, List.length_nil, l0]) rfl ?_
  intro a W S
  refine st_copy (pre := ([] ++ u0) ++ u1) (post := u3 ++ (u4)) S (by decide) (by kernel_rfl) (by kernel_rfl) ⟨by kernel_rfl, by kernel_rfl⟩ cInt x2 h2 (fun _ _ => h2) rfl (by simp only [List.append_assoc, List.nil_append]) (by simp only [List.length_append, List.length_nil, l0, l1]) rfl ?_
  intro a W S
  refine st_call (n := 2) (pre := (([] ++ u0) ++ u1) ++ u2) (post := u4) S (by decide) (by kernel_rfl) (by kernel_rfl) cFile x3 vA rfl (Or.inl ⟨rfl, ⟨by kernel_rfl, by kernel_rfl⟩⟩) ⟨_, Tryz.func51, by kernel_rfl, by kernel_rfl⟩ toFile_c (by kernel_rfl) h3 t3 (by simp only [List.append_assoc, List.nil_append]) (by simp only [List.length_append, List.length_nil, l0, l1, l2]) rfl ?_
  intro a W S
  refine st_copy (pre := ((([] ++ u0) ++ u1) ++ u2) ++ u3) (post := []) S (by decide) (by kernel_rfl) (by kernel_rfl) ⟨by kernel_rfl, by kernel_rfl⟩ cBool x4 h4 (fun _ _ => h4) rfl (by simp only [List.append_assoc, List.nil_append, List.append_nil]) (by simp only [List.length_append, List.length_nil, l0, l1, l2, l3]) rfl ?_
  intro a W S
  refine st_tail (n := 43) S (by decide) ⟨by kernel_rfl, by kernel_rfl⟩ (by kernel_rfl) (by kernel_rfl) rfl ?_
  intro vs V hr hb
  exact ⟨vs, rfl, hr, hb⟩
set_option maxRecDepth 10000 in
set_option maxHeartbeats 2000000 in
theorem toReplicaS_c : ToC Tryz.prog cReplicaS v1 16 := by
  rintro vs xs w ⟨o, c, rfl, hl, hr⟩ ht
  have h0 := sumT_nn cReplica.nn xs
  have h1 : (xs.length : Int) + sumT cReplica.tot xs ≤ 1048576 := ht
  show Calls _ _ #[.slice o xs.length c] w _
  refine calls_of_wp Tryz.func16 rfl ?_
  exact row_to (T := cReplica) (N := 23) (k := 43) (eO := 70) rfl (by decide) rfl (by kernel_rfl) (by kernel_rfl) (by kernel_rfl) rfl w o xs.length c xs rfl (by omega) (fun i a W hi h Q q => body_toC (eA := 104) (eO := 70) (by decide) (by kernel_rfl) (by kernel_rfl) (by kernel_rfl) (by kernel_rfl) rfl ⟨by kernel_rfl, by kernel_rfl⟩ (by kernel_rfl) ⟨_, Tryz.func33, by kernel_rfl, by kernel_rfl⟩ toReplica_c rfl hr (fun x hx => by have := sumT_mem cReplica.nn hx; omega) i a W hi h Q q)
set_option maxRecDepth 10000 in
set_option maxHeartbeats 2000000 in
theorem toMsg_c : ToC Tryz.prog cMsg vA 35 := by
  intro vs x w hr ht
  obtain ⟨⟨⟨⟨⟨⟨⟨⟨⟨⟨⟨_, x0⟩, x1⟩, x2⟩, x3⟩, x4⟩, x5⟩, x6⟩, x7⟩, x8⟩, x9⟩, x10⟩ := x
  obtain ⟨_, u10, rfl, ⟨_, u9, rfl, ⟨_, u8, rfl, ⟨_, u7, rfl, ⟨_, u6, rfl, ⟨_, u5, rfl, ⟨_, u4, rfl, ⟨_, u3, rfl, ⟨_, u2, rfl, ⟨_, u1, rfl, ⟨_, u0, rfl, rfl, h0⟩, h1⟩, h2⟩, h3⟩, h4⟩, h5⟩, h6⟩, h7⟩, h8⟩, h9⟩, h10⟩ := hr
  obtain ⟨ht, t10⟩ := tot_two ht
  obtain ⟨ht, t9⟩ := tot_two ht
  obtain ⟨ht, t8⟩ := tot_two ht
  obtain ⟨ht, t7⟩ := tot_two ht
  obtain ⟨ht, t6⟩ := tot_two ht
  obtain ⟨ht, t5⟩ := tot_two ht
  obtain ⟨ht, t4⟩ := tot_two ht
  obtain ⟨ht, t3⟩ := tot_two ht
  obtain ⟨ht, t2⟩ := tot_two ht
  obtain ⟨ht, t1⟩ := tot_two ht
  obtain ⟨ht, t0⟩ := tot_two ht
  have l0 : u0.length = 1 := cInt.len h0
  have l1 : u1.length = 1 := cInt.len h1
  have l2 : u2.length = 1 := cInt.len h2
  have l3 : u3.length = 1 := cInt.len h3
  have l4 : u4.length = 1 := cInt.len h4
  have l5 : u5.length = 1 := cInt.len h5
  have l6 : u6.length = 1 := cEntryS.len h6
  have l7 : u7.length = 1 := cInt.len h7
  have l8 : u8.length = 1 := cBool.len h8
  have l9 : u9.length = 1 := cByteS.len h9
  have l10 : u10.length = 2 := cGroup.len h10
  refine calls_of_wp Tryz.func35 rfl ?_
  refine st_head (us := (((((((((([] ++ u0) ++ u1) ++ u2) ++ u3) ++ u4) ++ u5) ++ u6) ++ u7) ++ u8) ++ u9) ++ u10) (zs := [.int .i64 0] ++ ([.int .i64 0] ++ ([.int .i64 0] ++ ([.int .i64 0] ++ ([.int .i64 0] ++ ([.int .i64 0] ++ ([.slice none 0 0] ++ ([.int .i64 0] ++ ([.bool false] ++ ([.slice none 0 0] ++ ([.slice none 0 0, .slice none 0 0] ++ []))))))))))) (z := .agg #[.int .i64 0, .int .i64 0, .int .i64 0, .int .i64 0, .int .i64 0, .int .i64 0, .slice none 0 0, .int .i64 0, .bool false, .slice none 0 0, .slice none 0 0, .slice none 0 0]) (N := 41) rfl rfl (by decide) (by kernel_rfl) (by kernel_rfl) ?_
  intro a W S
  refine st_copy (pre := []) (post := u1 ++ (u2 ++ (u3 ++ (u4 ++ (u5 ++ (u6 ++ (u7 ++ (u8 ++ (u9 ++ (u10)))))))))) S (by decide) (by kernel_rfl) (by kernel_rfl) ⟨by kernel_rfl, by kernel_rfl⟩ cInt x0 h0 (fun _ _ => h0) rfl (by simp only [List.append_assoc, List.nil_append]) rfl rfl ?_
  intro a W S
  refine st_copy (pre := [] ++ u0) (post := u2 ++ (u3 ++ (u4 ++ (u5 ++ (u6 ++ (u7 ++ (u8 ++ (u9 ++ (u10))))))))) S (by decide) (by kernel_rfl) (by kernel_rfl) ⟨by kernel_rfl, by kernel_rfl⟩ cInt x1 h1 (fun _ _ => h1) rfl (by simp only [List.append_assoc, List.nil_append]) (by simp only [List.length_append, List.length_nil, l0]) rfl ?_
  intro a W S
  refine st_copy (pre := ([] ++ u0) ++ u1) (post := u3 ++ (u4 ++ (u5 ++ (u6 ++ (u7 ++ (u8 ++ (u9 ++ (u10)))))))) S (by decide) (by kernel_rfl) (by kernel_rfl) ⟨by kernel_rfl, by kernel_rfl⟩ cInt x2 h2 (fun _ _ => h2) rfl (by simp only [List.append_assoc, List.nil_append]) (by simp only [List.length_append, List.length_nil, l0, l1]) rfl ?_
  intro a W S
  refine st_copy (pre := (([] ++ u0) ++ u1) ++ u2) (post := u4 ++ (u5 ++ (u6 ++ (u7 ++ (u8 ++ (u9 ++ (u10))))))) S (by decide) (by kernel_rfl) (by kernel_rfl) ⟨by kernel_rfl, by kernel_rfl⟩ cInt x3 h3 (fun _ _ => h3) rfl (by simp only [List.append_assoc, List.nil_append]) (by simp only [List.length_append, List.length_nil, l0, l1, l2]) rfl ?_
  intro a W S
  refine st_copy (pre := ((([] ++ u0) ++ u1) ++ u2) ++ u3) (post := u5 ++ (u6 ++ (u7 ++ (u8 ++ (u9 ++ (u10)))))) S (by decide) (by kernel_rfl) (by kernel_rfl) ⟨by kernel_rfl, by kernel_rfl⟩ cInt x4 h4 (fun _ _ => h4) rfl (by simp only [List.append_assoc, List.nil_append]) (by simp only [List.length_append, List.length_nil, l0, l1, l2, l3]) rfl ?_
  intro a W S
  refine st_copy (pre := (((([] ++ u0) ++ u1) ++ u2) ++ u3) ++ u4) (post := u6 ++ (u7 ++ (u8 ++ (u9 ++ (u10))))) S (by decide) (by kernel_rfl) (by kernel_rfl) ⟨by kernel_rfl, by kernel_rfl⟩ cInt x5 h5 (fun _ _ => h5) rfl (by simp only [List.append_assoc, List.nil_append]) (by simp only [List.length_append, List.length_nil, l0, l1, l2, l3, l4]) rfl ?_
  intro a W S
  refine st_call (n := 1) (pre := ((((([] ++ u0) ++ u1) ++ u2) ++ u3) ++ u4) ++ u5) (post := u7 ++ (u8 ++ (u9 ++ (u10)))) S (by decide) (by kernel_rfl) (by kernel_rfl) cEntryS x6 v1 rfl (Or.inr ⟨rfl, ⟨by kernel_rfl, by kernel_rfl⟩, rfl⟩) ⟨_, Tryz.func20, by kernel_rfl, by kernel_rfl⟩ toEntryS_c (by kernel_rfl) h6 t6 (by simp only [List.append_assoc, List.nil_append]) (by simp only [List.length_append, List.length_nil, l0, l1, l2, l3, l4, l5]) rfl ?_
  intro a W S
  refine st_copy (pre := (((((([] ++ u0) ++ u1) ++ u2) ++ u3) ++ u4) ++ u5) ++ u6) (post := u8 ++ (u9 ++ (u10))) S (by decide) (by kernel_rfl) (by kernel_rfl) ⟨by kernel_rfl, by kernel_rfl⟩ cInt x7 h7 (fun _ _ => h7) rfl (by simp only [List.append_assoc, List.nil_append]) (by simp only [List.length_append, List.length_nil, l0, l1, l2, l3, l4, l5, l6]) rfl ?_
  intro a W S
  refine st_copy (pre := ((((((([] ++ u0) ++ u1) ++ u2) ++ u3) ++ u4) ++ u5) ++ u6) ++ u7) (post := u9 ++ (u10)) S (by decide) (by kernel_rfl) (by kernel_rfl) ⟨by kernel_rfl, by kernel_rfl⟩ cBool x8 h8 (fun _ _ => h8) rfl (by simp only [List.append_assoc, List.nil_append]) (by simp only [List.length_append, List.length_nil, l0, l1, l2, l3, l4, l5, l6, l7]) rfl ?_
  intro a W S
  refine st_call (n := 1) (pre := (((((((([] ++ u0) ++ u1) ++ u2) ++ u3) ++ u4) ++ u5) ++ u6) ++ u7) ++ u8) (post := u10) S (by decide) (by kernel_rfl) (by kernel_rfl) cByteS x9 v1 rfl (Or.inr ⟨rfl, ⟨by kernel_rfl, by kernel_rfl⟩, rfl⟩) ⟨_, Tryz.func52, by kernel_rfl, by kernel_rfl⟩ toByteS_c (by kernel_rfl) h9 t9 (by simp only [List.append_assoc, List.nil_append]) (by simp only [List.length_append, List.length_nil, l0, l1, l2, l3, l4, l5, l6, l7, l8]) rfl ?_
  intro a W S
  refine st_call (n := 2) (pre := ((((((((([] ++ u0) ++ u1) ++ u2) ++ u3) ++ u4) ++ u5) ++ u6) ++ u7) ++ u8) ++ u9) (post := []) S (by decide) (by kernel_rfl) (by kernel_rfl) cGroup x10 vA rfl (Or.inl ⟨rfl, ⟨by kernel_rfl, by kernel_rfl⟩⟩) ⟨_, Tryz.func17, by kernel_rfl, by kernel_rfl⟩ toGroup_c (by kernel_rfl) h10 t10 (by simp only [List.append_assoc, List.nil_append, List.append_nil]) (by simp only [List.length_append, List.length_nil, l0, l1, l2, l3, l4, l5, l6, l7, l8, l9]) rfl ?_
  intro a W S
  refine st_tail (n := 12) S (by decide) ⟨by kernel_rfl, by kernel_rfl⟩ (by kernel_rfl) (by kernel_rfl) rfl ?_
  intro vs V hr hb
  exact ⟨vs, rfl, hr, hb⟩
set_option maxRecDepth 10000 in
set_option maxHeartbeats 2000000 in
theorem toMsgS_c : ToC Tryz.prog cMsgS v1 18 := by
  rintro vs xs w ⟨o, c, rfl, hl, hr⟩ ht
  have h0 := sumT_nn cMsg.nn xs
  have h1 : (xs.length : Int) + sumT cMsg.tot xs ≤ 1048576 := ht
  show Calls _ _ #[.slice o xs.length c] w _
  refine calls_of_wp Tryz.func18 rfl ?_
  exact row_to (T := cMsg) (N := 23) (k := 12) (eO := 127) rfl (by decide) rfl (by kernel_rfl) (by kernel_rfl) (by kernel_rfl) rfl w o xs.length c xs rfl (by omega) (fun i a W hi h Q q => body_toC (eA := 108) (eO := 127) (by decide) (by kernel_rfl) (by kernel_rfl) (by kernel_rfl) (by kernel_rfl) rfl ⟨by kernel_rfl, by kernel_rfl⟩ (by kernel_rfl) ⟨_, Tryz.func35, by kernel_rfl, by kernel_rfl⟩ toMsg_c rfl hr (fun x hx => by have := sumT_mem cMsg.nn hx; omega) i a W hi h Q q)
set_option maxRecDepth 10000 in
set_option maxHeartbeats 2000000 in
theorem toIntA2_c : ToC Tryz.prog cIntA2 vA 36 := by
  rintro vs xs w ⟨hv, hx⟩ ht
  have hl : vs.length = 2 := by rw [hv, List.length_map, hx]
  have h1 : One vs := cIntA2.one (W := w) (B := 0) ⟨hv, hx⟩
  refine calls_of_wp Tryz.func36 rfl ?_
  refine wp_mono (arr_to (n := 2) (us := vs) (zs := [.int .i64 0, .int .i64 0]) (z := .agg #[.int .i64 0, .int .i64 0]) (eA := 3) (eO := 3) rfl rfl (by kernel_rfl) rfl (by kernel_rfl) (by kernel_rfl) (by kernel_rfl) (by kernel_rfl) ⟨by kernel_rfl, by kernel_rfl⟩ ⟨by kernel_rfl, by kernel_rfl⟩ hl rfl h1 (by decide) rfl) ?_
  exact fun e a W h => post_mono (fun e V hq => ⟨vs, hq.1, ⟨hv, hx⟩, hq.2⟩) e a W h
set_option maxRecDepth 10000 in
set_option maxHeartbeats 2000000 in
theorem toIntA2S_c : ToC Tryz.prog cIntA2S v1 19 := by
  rintro vs xs w ⟨o, c, rfl, hl, hr⟩ ht
  have h0 := sumT_nn cIntA2.nn xs
  have h1 : (xs.length : Int) + sumT cIntA2.tot xs ≤ 1048576 := ht
  show Calls _ _ #[.slice o xs.length c] w _
  refine calls_of_wp Tryz.func19 rfl ?_
  exact row_to (T := cIntA2) (N := 23) (k := 2) (eO := 129) rfl (by decide) rfl (by kernel_rfl) (by kernel_rfl) (by kernel_rfl) rfl w o xs.length c xs rfl (by omega) (fun i a W hi h Q q => body_toC (eA := 129) (eO := 129) (by decide) (by kernel_rfl) (by kernel_rfl) (by kernel_rfl) (by kernel_rfl) rfl ⟨by kernel_rfl, by kernel_rfl⟩ (by kernel_rfl) ⟨_, Tryz.func36, by kernel_rfl, by kernel_rfl⟩ toIntA2_c rfl hr (fun x hx => by have := sumT_mem cIntA2.nn hx; omega) i a W hi h Q q)
set_option maxRecDepth 10000 in
set_option maxHeartbeats 2000000 in
theorem toStringS_c : ToC Tryz.prog cStringS v1 21 := by
  rintro vs xs w ⟨o, c, rfl, hl, hr⟩ ht
  have h0 := sumT_nn cStr.nn xs
  have h1 : (xs.length : Int) + sumT cStr.tot xs ≤ 1048576 := ht
  show Calls _ _ #[.slice o xs.length c] w _
  refine calls_of_wp Tryz.func21 rfl ?_
  exact row_to (T := cStr) (N := 22) (k := 1) (eO := 9) rfl (by decide) rfl (by kernel_rfl) (by kernel_rfl) (by kernel_rfl) rfl w o xs.length c xs rfl (by omega) (fun i a W hi h Q q => body_toS (eA := 9) (eO := 9) (by decide) (by kernel_rfl) (by kernel_rfl) (by kernel_rfl) (by kernel_rfl) rfl ⟨by kernel_rfl, by kernel_rfl⟩ (fun h => h) rfl hr i a W hi h Q q)
set_option maxRecDepth 10000 in
set_option maxHeartbeats 2000000 in
theorem toCluster_c : ToC Tryz.prog cCluster vA 6 := by
  intro vs x w hr ht
  obtain ⟨⟨⟨⟨⟨⟨⟨_, x0⟩, x1⟩, x2⟩, x3⟩, x4⟩, x5⟩, x6⟩ := x
  obtain ⟨_, u6, rfl, ⟨_, u5, rfl, ⟨_, u4, rfl, ⟨_, u3, rfl, ⟨_, u2, rfl, ⟨_, u1, rfl, ⟨_, u0, rfl, rfl, h0⟩, h1⟩, h2⟩, h3⟩, h4⟩, h5⟩, h6⟩ := hr
  obtain ⟨ht, t6⟩ := tot_two ht
  obtain ⟨ht, t5⟩ := tot_two ht
  obtain ⟨ht, t4⟩ := tot_two ht
  obtain ⟨ht, t3⟩ := tot_two ht
  obtain ⟨ht, t2⟩ := tot_two ht
  obtain ⟨ht, t1⟩ := tot_two ht
  obtain ⟨ht, t0⟩ := tot_two ht
  have l0 : u0.length = 1 := cReplicaS.len h0
  have l1 : u1.length = 2 := cGroup.len h1
  have l2 : u2.length = 1 := cMsgS.len h2
  have l3 : u3.length = 1 := cIntA2S.len h3
  have l4 : u4.length = 1 := cEntryS.len h4
  have l5 : u5.length = 1 := cStringS.len h5
  have l6 : u6.length = 1 := cBool.len h6
  refine calls_of_wp Tryz.func6 rfl ?_
  refine st_head (us := (((((([] ++ u0) ++ u1) ++ u2) ++ u3) ++ u4) ++ u5) ++ u6) (zs := [.slice none 0 0] ++ ([.slice none 0 0, .slice none 0 0] ++ ([.slice none 0 0] ++ ([.slice none 0 0] ++ ([.slice none 0 0] ++ ([.slice none 0 0] ++ ([.bool false] ++ []))))))) (z := .agg #[.slice none 0 0, .slice none 0 0, .slice none 0 0, .slice none 0 0, .slice none 0 0, .slice none 0 0, .slice none 0 0, .bool false]) (N := 32) rfl rfl (by decide) (by kernel_rfl) (by kernel_rfl) ?_
  intro a W S
  refine st_call (n := 1) (pre := []) (post := u1 ++ (u2 ++ (u3 ++ (u4 ++ (u5 ++ (u6)))))) S (by decide) (by kernel_rfl) (by kernel_rfl) cReplicaS x0 v1 rfl (Or.inr ⟨rfl, ⟨by kernel_rfl, by kernel_rfl⟩, rfl⟩) ⟨_, Tryz.func16, by kernel_rfl, by kernel_rfl⟩ toReplicaS_c (by kernel_rfl) h0 t0 (by simp only [List.append_assoc, List.nil_append]) rfl rfl ?_
  intro a W S
  refine st_call (n := 2) (pre := [] ++ u0) (post := u2 ++ (u3 ++ (u4 ++ (u5 ++ (u6))))) S (by decide) (by kernel_rfl) (by kernel_rfl) cGroup x1 vA rfl (Or.inl ⟨rfl, ⟨by kernel_rfl, by kernel_rfl⟩⟩) ⟨_, Tryz.func17, by kernel_rfl, by kernel_rfl⟩ toGroup_c (by kernel_rfl) h1 t1 (by simp only [List.append_assoc, List.nil_append]) (by simp only [List.length_append, List.length_nil, l0]) rfl ?_
  intro a W S
  refine st_call (n := 1) (pre := ([] ++ u0) ++ u1) (post := u3 ++ (u4 ++ (u5 ++ (u6)))) S (by decide) (by kernel_rfl) (by kernel_rfl) cMsgS x2 v1 rfl (Or.inr ⟨rfl, ⟨by kernel_rfl, by kernel_rfl⟩, rfl⟩) ⟨_, Tryz.func18, by kernel_rfl, by kernel_rfl⟩ toMsgS_c (by kernel_rfl) h2 t2 (by simp only [List.append_assoc, List.nil_append]) (by simp only [List.length_append, List.length_nil, l0, l1]) rfl ?_
  intro a W S
  refine st_call (n := 1) (pre := (([] ++ u0) ++ u1) ++ u2) (post := u4 ++ (u5 ++ (u6))) S (by decide) (by kernel_rfl) (by kernel_rfl) cIntA2S x3 v1 rfl (Or.inr ⟨rfl, ⟨by kernel_rfl, by kernel_rfl⟩, rfl⟩) ⟨_, Tryz.func19, by kernel_rfl, by kernel_rfl⟩ toIntA2S_c (by kernel_rfl) h3 t3 (by simp only [List.append_assoc, List.nil_append]) (by simp only [List.length_append, List.length_nil, l0, l1, l2]) rfl ?_
  intro a W S
  refine st_call (n := 1) (pre := ((([] ++ u0) ++ u1) ++ u2) ++ u3) (post := u5 ++ (u6)) S (by decide) (by kernel_rfl) (by kernel_rfl) cEntryS x4 v1 rfl (Or.inr ⟨rfl, ⟨by kernel_rfl, by kernel_rfl⟩, rfl⟩) ⟨_, Tryz.func20, by kernel_rfl, by kernel_rfl⟩ toEntryS_c (by kernel_rfl) h4 t4 (by simp only [List.append_assoc, List.nil_append]) (by simp only [List.length_append, List.length_nil, l0, l1, l2, l3]) rfl ?_
  intro a W S
  refine st_call (n := 1) (pre := (((([] ++ u0) ++ u1) ++ u2) ++ u3) ++ u4) (post := u6) S (by decide) (by kernel_rfl) (by kernel_rfl) cStringS x5 v1 rfl (Or.inr ⟨rfl, ⟨by kernel_rfl, by kernel_rfl⟩, rfl⟩) ⟨_, Tryz.func21, by kernel_rfl, by kernel_rfl⟩ toStringS_c (by kernel_rfl) h5 t5 (by simp only [List.append_assoc, List.nil_append]) (by simp only [List.length_append, List.length_nil, l0, l1, l2, l3, l4]) rfl ?_
  intro a W S
  refine st_copy (pre := ((((([] ++ u0) ++ u1) ++ u2) ++ u3) ++ u4) ++ u5) (post := []) S (by decide) (by kernel_rfl) (by kernel_rfl) ⟨by kernel_rfl, by kernel_rfl⟩ cBool x6 h6 (fun _ _ => h6) rfl (by simp only [List.append_assoc, List.nil_append, List.append_nil]) (by simp only [List.length_append, List.length_nil, l0, l1, l2, l3, l4, l5]) rfl ?_
  intro a W S
  refine st_tail (n := 8) S (by decide) ⟨by kernel_rfl, by kernel_rfl⟩ (by kernel_rfl) (by kernel_rfl) rfl ?_
  intro vs V hr hb
  exact ⟨vs, rfl, hr, hb⟩

end Go.Proofs.YtjiplphfpkhmpaaGreat
