/-
  The laws' looks at all that a cluster holds.
-/
import Derived.Test.YtjiplphfpkhmpaaGreatEB
namespace Go.Proofs.YtjiplphfpkhmpaaGreat
open Go.ChangeShapes Go.WideShapes Go.RowKit

set_option maxRecDepth 10000 in
set_option maxHeartbeats 2000000 in
theorem eqIntS_c : EqC Tryz.prog cIntS v1 41 := by
  rintro us vs xs w ⟨o, c, rfl, hl, hr⟩ ⟨o', c', rfl, _, hr'⟩ ht
  have h0 := sumT_nn cInt.nn xs
  have h1 : (xs.length : Int) + sumT cInt.tot xs ≤ 1048576 := ht
  show Calls _ _ #[.slice o xs.length c, .slice o' xs.length c'] w _
  refine calls_of_wp Tryz.func41 rfl ?_
  exact row_eq (N := 26) rfl (by decide) rfl (by kernel_rfl) w o o' xs.length c c' (by omega) (fun i a W hi h Q q hp => body_eqS (T := cInt) (eA := 3) (by kernel_rfl) (by decide) (by kernel_rfl) (by kernel_rfl) rfl ⟨by kernel_rfl, by kernel_rfl⟩ (fun h g => ⟨_, h, g, neq_int⟩) rfl hr hr' i a W hi h Q q hp)
set_option maxRecDepth 10000 in
set_option maxHeartbeats 2000000 in
theorem eqGroup_c : EqC Tryz.prog cGroup vA 24 := by
  intro us vs x w hr hs ht
  obtain ⟨⟨_, x0⟩, x1⟩ := x
  obtain ⟨_, u1, rfl, ⟨_, u0, rfl, rfl, h0⟩, h1⟩ := hr
  obtain ⟨_, y1, rfl, ⟨_, y0, rfl, rfl, g0⟩, g1⟩ := hs
  obtain ⟨ht, t1⟩ := tot_two ht
  obtain ⟨ht, t0⟩ := tot_two ht
  have l0 : u0.length = 1 := cIntS.len h0
  have m0 : y0.length = 1 := cIntS.len g0
  refine calls_of_wp Tryz.func24 rfl ?_
  refine q_head (us := ([] ++ u0) ++ u1) (vs := ([] ++ y0) ++ y1) (N := 17) rfl rfl rfl (by decide) ?_
  intro a W S
  refine q_call (n := 1) (off := 0) (pre := []) (post := u1) (pre' := []) (post' := y1) S (by decide) (by kernel_rfl) cIntS x0 v1 rfl (Or.inr ⟨rfl, ⟨by kernel_rfl, by kernel_rfl⟩, rfl⟩) ⟨_, Tryz.func41, by kernel_rfl, by kernel_rfl⟩ eqIntS_c h0 g0 t0 (by simp only [List.nil_append]) rfl (by simp only [List.nil_append]) rfl ?_
  intro a W S
  refine q_call (n := 1) (off := 1) (pre := [] ++ u0) (post := []) (pre' := [] ++ y0) (post' := []) S (by decide) (by kernel_rfl) cIntS x1 v1 rfl (Or.inr ⟨rfl, ⟨by kernel_rfl, by kernel_rfl⟩, rfl⟩) ⟨_, Tryz.func41, by kernel_rfl, by kernel_rfl⟩ eqIntS_c h1 g1 t1 (by simp only [List.nil_append, List.append_nil]) (by simp only [List.length_append, List.length_nil, l0]) (by simp only [List.nil_append, List.append_nil]) (by simp only [List.length_append, List.length_nil, m0]) ?_
  intro a W S
  exact q_tail S (by decide) rfl (fun hb => ⟨rfl, hb⟩)
set_option maxRecDepth 10000 in
set_option maxHeartbeats 2000000 in
theorem eqByteS_c : EqC Tryz.prog cByteS v1 57 := by
  rintro us vs xs w ⟨o, c, rfl, hl, hr⟩ ⟨o', c', rfl, _, hr'⟩ ht
  have h0 := sumT_nn cByte.nn xs
  have h1 : (xs.length : Int) + sumT cByte.tot xs ≤ 1048576 := ht
  show Calls _ _ #[.slice o xs.length c, .slice o' xs.length c'] w _
  refine calls_of_wp Tryz.func57 rfl ?_
  exact row_eq (N := 26) rfl (by decide) rfl (by kernel_rfl) w o o' xs.length c c' (by omega) (fun i a W hi h Q q hp => body_eqS (T := cByte) (eA := 5) (by kernel_rfl) (by decide) (by kernel_rfl) (by kernel_rfl) rfl ⟨by kernel_rfl, by kernel_rfl⟩ (fun h g => ⟨_, h.1, g.1, neq_int⟩) rfl hr hr' i a W hi h Q q hp)
set_option maxRecDepth 10000 in
set_option maxHeartbeats 2000000 in
theorem eqEntry_c : EqC Tryz.prog cEntry vA 44 := by
  intro us vs x w hr hs ht
  obtain ⟨⟨⟨_, x0⟩, x1⟩, x2⟩ := x
  obtain ⟨_, u2, rfl, ⟨_, u1, rfl, ⟨_, u0, rfl, rfl, h0⟩, h1⟩, h2⟩ := hr
  obtain ⟨_, y2, rfl, ⟨_, y1, rfl, ⟨_, y0, rfl, rfl, g0⟩, g1⟩, g2⟩ := hs
  obtain ⟨ht, t2⟩ := tot_two ht
  replace ht := (tot_two ht).1
  replace ht := (tot_two ht).1
  have l0 : u0.length = 1 := cInt.len h0
  have m0 : y0.length = 1 := cInt.len g0
  have l1 : u1.length = 1 := cInt.len h1
  have m1 : y1.length = 1 := cInt.len g1
  refine calls_of_wp Tryz.func44 rfl ?_
  refine q_head (us := (([] ++ u0) ++ u1) ++ u2) (vs := (([] ++ y0) ++ y1) ++ y2) (N := 21) rfl rfl rfl (by decide) ?_
  intro a W S
  refine q_cell (off := 0) (pre := []) (post := u1 ++ (u2)) (pre' := []) (post' := y1 ++ (y2)) S (by decide) (by kernel_rfl) ⟨by kernel_rfl, by kernel_rfl⟩ (.int .i64 x0) h0 g0 (by simp only [List.append_assoc, List.nil_append]) rfl (by simp only [List.append_assoc, List.nil_append]) rfl neq_int ?_
  intro a S
  refine q_cell (off := 1) (pre := [] ++ u0) (post := u2) (pre' := [] ++ y0) (post' := y2) S (by decide) (by kernel_rfl) ⟨by kernel_rfl, by kernel_rfl⟩ (.int .i64 x1) h1 g1 (by simp only [List.append_assoc, List.nil_append]) (by simp only [List.length_append, List.length_nil, l0]) (by simp only [List.append_assoc, List.nil_append]) (by simp only [List.length_append, List.length_nil, m0]) neq_int ?_
  intro a S
  refine q_call (n := 1) (off := 2) (pre := ([] ++ u0) ++ u1) (post := []) (pre' := ([] ++ y0) ++ y1) (post' := []) S (by decide) (by kernel_rfl) cByteS x2 v1 rfl (Or.inr ⟨rfl, ⟨by kernel_rfl, by kernel_rfl⟩, rfl⟩) ⟨_, Tryz.func57, by kernel_rfl, by kernel_rfl⟩ eqByteS_c h2 g2 t2 (by simp only [List.append_assoc, List.nil_append, List.append_nil]) (by simp only [List.length_append, List.length_nil, l0, l1]) (by simp only [List.append_assoc, List.nil_append, List.append_nil]) (by simp only [List.length_append, List.length_nil, m0, m1]) ?_
  intro a W S
  exact q_tail S (by decide) rfl (fun hb => ⟨rfl, hb⟩)
set_option maxRecDepth 10000 in
set_option maxHeartbeats 2000000 in
theorem eqEntryS_c : EqC Tryz.prog cEntryS v1 27 := by
  rintro us vs xs w ⟨o, c, rfl, hl, hr⟩ ⟨o', c', rfl, _, hr'⟩ ht
  have h0 := sumT_nn cEntry.nn xs
  have h1 : (xs.length : Int) + sumT cEntry.tot xs ≤ 1048576 := ht
  show Calls _ _ #[.slice o xs.length c, .slice o' xs.length c'] w _
  refine calls_of_wp Tryz.func27 rfl ?_
  exact row_eq (N := 27) rfl (by decide) rfl (by kernel_rfl) w o o' xs.length c c' (by omega) (fun i a W hi h Q q hp => body_eqC (T := cEntry) (eA := 131) (by kernel_rfl) (by decide) (by kernel_rfl) (by kernel_rfl) rfl ⟨by kernel_rfl, by kernel_rfl⟩ ⟨_, Tryz.func44, by kernel_rfl, by kernel_rfl⟩ eqEntry_c rfl hr hr' (fun x hx => by have := sumT_mem cEntry.nn hx; omega) i a W hi h Q q hp)
set_option maxRecDepth 10000 in
set_option maxHeartbeats 2000000 in
theorem eqKeep_c : EqC Tryz.prog cKeep vA 70 := by
  intro us vs x w hr hs ht
  obtain ⟨⟨⟨⟨⟨⟨⟨_, x0⟩, x1⟩, x2⟩, x3⟩, x4⟩, x5⟩, x6⟩ := x
  obtain ⟨_, u6, rfl, ⟨_, u5, rfl, ⟨_, u4, rfl, ⟨_, u3, rfl, ⟨_, u2, rfl, ⟨_, u1, rfl, ⟨_, u0, rfl, rfl, h0⟩, h1⟩, h2⟩, h3⟩, h4⟩, h5⟩, h6⟩ := hr
  obtain ⟨_, y6, rfl, ⟨_, y5, rfl, ⟨_, y4, rfl, ⟨_, y3, rfl, ⟨_, y2, rfl, ⟨_, y1, rfl, ⟨_, y0, rfl, rfl, g0⟩, g1⟩, g2⟩, g3⟩, g4⟩, g5⟩, g6⟩ := hs
  obtain ⟨ht, t6⟩ := tot_two ht
  obtain ⟨ht, t5⟩ := tot_two ht
  obtain ⟨ht, t4⟩ := tot_two ht
  replace ht := (tot_two ht).1
  replace ht := (tot_two ht).1
  replace ht := (tot_two ht).1
  replace ht := (tot_two ht).1
  have l0 : u0.length = 1 := cInt.len h0
  have m0 : y0.length = 1 := cInt.len g0
  have l1 : u1.length = 1 := cInt.len h1
  have m1 : y1.length = 1 := cInt.len g1
  have l2 : u2.length = 1 := cInt.len h2
  have m2 : y2.length = 1 := cInt.len g2
  have l3 : u3.length = 1 := cInt.len h3
  have m3 : y3.length = 1 := cInt.len g3
  have l4 : u4.length = 2 := cGroup.len h4
  have m4 : y4.length = 2 := cGroup.len g4
  have l5 : u5.length = 1 := cByteS.len h5
  have m5 : y5.length = 1 := cByteS.len g5
  refine calls_of_wp Tryz.func70 rfl ?_
  refine q_head (us := (((((([] ++ u0) ++ u1) ++ u2) ++ u3) ++ u4) ++ u5) ++ u6) (vs := (((((([] ++ y0) ++ y1) ++ y2) ++ y3) ++ y4) ++ y5) ++ y6) (N := 43) rfl rfl rfl (by decide) ?_
  intro a W S
  refine q_cell (off := 0) (pre := []) (post := u1 ++ (u2 ++ (u3 ++ (u4 ++ (u5 ++ (u6)))))) (pre' := []) (post' := y1 ++ (y2 ++ (y3 ++ (y4 ++ (y5 ++ (y6)))))) S (by decide) (by kernel_rfl) ⟨by kernel_rfl, by kernel_rfl⟩ (.int .i64 x0) h0 g0 (by simp only [List.append_assoc, List.nil_append]) rfl (by simp only [List.append_assoc, List.nil_append]) rfl neq_int ?_
  intro a S
  refine q_cell (off := 1) (pre := [] ++ u0) (post := u2 ++ (u3 ++ (u4 ++ (u5 ++ (u6))))) (pre' := [] ++ y0) (post' := y2 ++ (y3 ++ (y4 ++ (y5 ++ (y6))))) S (by decide) (by kernel_rfl) ⟨by kernel_rfl, by kernel_rfl⟩ (.int .i64 x1) h1 g1 (by simp only [List.append_assoc, List.nil_append]) (by simp only [List.length_append, List.length_nil, l0]) (by simp only [List.append_assoc, List.nil_append]) (by simp only [List.length_append, List.length_nil, m0]) neq_int ?_
  intro a S
  refine q_cell (off := 2) (pre := ([] ++ u0) ++ u1) (post := u3 ++ (u4 ++ (u5 ++ (u6)))) (pre' := ([] ++ y0) ++ y1) (post' := y3 ++ (y4 ++ (y5 ++ (y6)))) S (by decide) (by kernel_rfl) ⟨by kernel_rfl, by kernel_rfl⟩ (.int .i64 x2) h2 g2 (by simp only [List.append_assoc, List.nil_append]) (by simp only [List.length_append, List.length_nil, l0, l1]) (by simp only [List.append_assoc, List.nil_append]) (by simp only [List.length_append, List.length_nil, m0, m1]) neq_int ?_
  intro a S
  refine q_cell (off := 3) (pre := (([] ++ u0) ++ u1) ++ u2) (post := u4 ++ (u5 ++ (u6))) (pre' := (([] ++ y0) ++ y1) ++ y2) (post' := y4 ++ (y5 ++ (y6))) S (by decide) (by kernel_rfl) ⟨by kernel_rfl, by kernel_rfl⟩ (.int .i64 x3) h3 g3 (by simp only [List.append_assoc, List.nil_append]) (by simp only [List.length_append, List.length_nil, l0, l1, l2]) (by simp only [List.append_assoc, List.nil_append]) (by simp only [List.length_append, List.length_nil, m0, m1, m2]) neq_int ?_
  intro a S
  refine q_call (n := 2) (off := 4) (pre := ((([] ++ u0) ++ u1) ++ u2) ++ u3) (post := u5 ++ (u6)) (pre' := ((([] ++ y0) ++ y1) ++ y2) ++ y3) (post' := y5 ++ (y6)) S (by decide) (by kernel_rfl) cGroup x4 vA rfl (Or.inl ⟨rfl, ⟨by kernel_rfl, by kernel_rfl⟩⟩) ⟨_, Tryz.func24, by kernel_rfl, by kernel_rfl⟩ eqGroup_c h4 g4 t4 (by simp only [List.append_assoc, List.nil_append]) (by simp only [List.length_append, List.length_nil, l0, l1, l2, l3]) (by simp only [List.append_assoc, List.nil_append]) (by simp only [List.length_append, List.length_nil, m0, m1, m2, m3]) ?_
  intro a W S
  refine q_call (n := 1) (off := 6) (pre := (((([] ++ u0) ++ u1) ++ u2) ++ u3) ++ u4) (post := u6) (pre' := (((([] ++ y0) ++ y1) ++ y2) ++ y3) ++ y4) (post' := y6) S (by decide) (by kernel_rfl) cByteS x5 v1 rfl (Or.inr ⟨rfl, ⟨by kernel_rfl, by kernel_rfl⟩, rfl⟩) ⟨_, Tryz.func57, by kernel_rfl, by kernel_rfl⟩ eqByteS_c h5 g5 t5 (by simp only [List.append_assoc, List.nil_append]) (by simp only [List.length_append, List.length_nil, l0, l1, l2, l3, l4]) (by simp only [List.append_assoc, List.nil_append]) (by simp only [List.length_append, List.length_nil, m0, m1, m2, m3, m4]) ?_
  intro a W S
  refine q_call (n := 1) (off := 7) (pre := ((((([] ++ u0) ++ u1) ++ u2) ++ u3) ++ u4) ++ u5) (post := []) (pre' := ((((([] ++ y0) ++ y1) ++ y2) ++ y3) ++ y4) ++ y5) (post' := []) S (by decide) (by kernel_rfl) cEntryS x6 v1 rfl (Or.inr ⟨rfl, ⟨by kernel_rfl, by kernel_rfl⟩, rfl⟩) ⟨_, Tryz.func27, by kernel_rfl, by kernel_rfl⟩ eqEntryS_c h6 g6 t6 (by simp only [List.append_assoc, List.nil_append, List.append_nil]) (by simp only [List.length_append, List.length_nil, l0, l1, l2, l3, l4, l5]) (by simp only [List.append_assoc, List.nil_append, List.append_nil]) (by simp only [List.length_append, List.length_nil, m0, m1, m2, m3, m4, m5]) ?_
  intro a W S
  exact q_tail S (by decide) rfl (fun hb => ⟨rfl, hb⟩)
set_option maxRecDepth 10000 in
set_option maxHeartbeats 2000000 in
theorem eqIntA8_c : EqC Tryz.prog cIntA8 vA 71 := by
  rintro us vs xs w ⟨hu, hx⟩ ⟨hv, _⟩ ht
  obtain rfl : us = vs := hu.trans hv.symm
  have hl : us.length = 8 := by rw [hu, List.length_map, hx]
  refine calls_of_wp Tryz.func71 rfl ?_
  exact arr_eq (n := 8) (us := us) (eA := 3) (by kernel_rfl) rfl rfl (by kernel_rfl) (by kernel_rfl) ⟨by kernel_rfl, by kernel_rfl⟩ hl (fun v hm => by
    rw [hu] at hm
    obtain ⟨x, _, rfl⟩ := List.mem_map.1 hm
    exact neq_int) (by decide) rfl
set_option maxRecDepth 10000 in
set_option maxHeartbeats 2000000 in
theorem eqServer_c : EqC Tryz.prog cServer vA 54 := by
  intro us vs x w hr hs ht
  obtain ⟨⟨⟨⟨⟨⟨⟨⟨⟨⟨_, x0⟩, x1⟩, x2⟩, x3⟩, x4⟩, x5⟩, x6⟩, x7⟩, x8⟩, x9⟩ := x
  obtain ⟨_, u9, rfl, ⟨_, u8, rfl, ⟨_, u7, rfl, ⟨_, u6, rfl, ⟨_, u5, rfl, ⟨_, u4, rfl, ⟨_, u3, rfl, ⟨_, u2, rfl, ⟨_, u1, rfl, ⟨_, u0, rfl, rfl, h0⟩, h1⟩, h2⟩, h3⟩, h4⟩, h5⟩, h6⟩, h7⟩, h8⟩, h9⟩ := hr
  obtain ⟨_, y9, rfl, ⟨_, y8, rfl, ⟨_, y7, rfl, ⟨_, y6, rfl, ⟨_, y5, rfl, ⟨_, y4, rfl, ⟨_, y3, rfl, ⟨_, y2, rfl, ⟨_, y1, rfl, ⟨_, y0, rfl, rfl, g0⟩, g1⟩, g2⟩, g3⟩, g4⟩, g5⟩, g6⟩, g7⟩, g8⟩, g9⟩ := hs
  replace ht := (tot_two ht).1
  replace ht := (tot_two ht).1
  obtain ⟨ht, t7⟩ := tot_two ht
  obtain ⟨ht, t6⟩ := tot_two ht
  obtain ⟨ht, t5⟩ := tot_two ht
  replace ht := (tot_two ht).1
  replace ht := (tot_two ht).1
  replace ht := (tot_two ht).1
  obtain ⟨ht, t1⟩ := tot_two ht
  replace ht := (tot_two ht).1
  have l0 : u0.length = 1 := cInt.len h0
  have m0 : y0.length = 1 := cInt.len g0
  have l1 : u1.length = 8 := cKeep.len h1
  have m1 : y1.length = 8 := cKeep.len g1
  have l2 : u2.length = 1 := cInt.len h2
  have m2 : y2.length = 1 := cInt.len g2
  have l3 : u3.length = 1 := cInt.len h3
  have m3 : y3.length = 1 := cInt.len g3
  have l4 : u4.length = 1 := cInt.len h4
  have m4 : y4.length = 1 := cInt.len g4
  have l5 : u5.length = 1 := cIntS.len h5
  have m5 : y5.length = 1 := cIntS.len g5
  have l6 : u6.length = 8 := cIntA8.len h6
  have m6 : y6.length = 8 := cIntA8.len g6
  have l7 : u7.length = 8 := cIntA8.len h7
  have m7 : y7.length = 8 := cIntA8.len g7
  have l8 : u8.length = 1 := cInt.len h8
  have m8 : y8.length = 1 := cInt.len g8
  refine calls_of_wp Tryz.func54 rfl ?_
  refine q_head (us := ((((((((([] ++ u0) ++ u1) ++ u2) ++ u3) ++ u4) ++ u5) ++ u6) ++ u7) ++ u8) ++ u9) (vs := ((((((((([] ++ y0) ++ y1) ++ y2) ++ y3) ++ y4) ++ y5) ++ y6) ++ y7) ++ y8) ++ y9) (N := 59) rfl rfl rfl (by decide) ?_
  intro a W S
  refine q_cell (off := 0) (pre := []) (post := u1 ++ (u2 ++ (u3 ++ (u4 ++ (u5 ++ (u6 ++ (u7 ++ (u8 ++ (u9))))))))) (pre' := []) (post' := y1 ++ (y2 ++ (y3 ++ (y4 ++ (y5 ++ (y6 ++ (y7 ++ (y8 ++ (y9))))))))) S (by decide) (by kernel_rfl) ⟨by kernel_rfl, by kernel_rfl⟩ (.int .i64 x0) h0 g0 (by simp only [List.append_assoc, List.nil_append]) rfl (by simp only [List.append_assoc, List.nil_append]) rfl neq_int ?_
  intro a S
  refine q_call (n := 8) (off := 1) (pre := [] ++ u0) (post := u2 ++ (u3 ++ (u4 ++ (u5 ++ (u6 ++ (u7 ++ (u8 ++ (u9)))))))) (pre' := [] ++ y0) (post' := y2 ++ (y3 ++ (y4 ++ (y5 ++ (y6 ++ (y7 ++ (y8 ++ (y9)))))))) S (by decide) (by kernel_rfl) cKeep x1 vA rfl (Or.inl ⟨rfl, ⟨by kernel_rfl, by kernel_rfl⟩⟩) ⟨_, Tryz.func70, by kernel_rfl, by kernel_rfl⟩ eqKeep_c h1 g1 t1 (by simp only [List.append_assoc, List.nil_append]) (by simp only [List.length_append, List.length_nil, l0]) (by simp only [List.append_assoc, List.nil_append]) (by simp only [List.length_append, List.length_nil, m0]) ?_
  intro a W S
  refine q_cell (off := 9) (pre := ([] ++ u0) ++ u1) (post := u3 ++ (u4 ++ (u5 ++ (u6 ++ (u7 ++ (u8 ++ (u9))))))) (pre' := ([] ++ y0) ++ y1) (post' := y3 ++ (y4 ++ (y5 ++ (y6 ++ (y7 ++ (y8 ++ (y9))))))) S (by decide) (by kernel_rfl) ⟨by kernel_rfl, by kernel_rfl⟩ (.int .i64 x2) h2 g2 (by simp only [List.append_assoc, List.nil_append]) (by simp only [List.length_append, List.length_nil, l0, l1]) (by simp only [List.append_assoc, List.nil_append]) (by simp only [List.length_append, List.length_nil, m0, m1]) neq_int ?_
  intro a S
  refine q_cell (off := 10) (pre := (([] ++ u0) ++ u1) ++ u2) (post := u4 ++ (u5 ++ (u6 ++ (u7 ++ (u8 ++ (u9)))))) (pre' := (([] ++ y0) ++ y1) ++ y2) (post' := y4 ++ (y5 ++ (y6 ++ (y7 ++ (y8 ++ (y9)))))) S (by decide) (by kernel_rfl) ⟨by kernel_rfl, by kernel_rfl⟩ (.int .i64 x3) h3 g3 (by simp only [List.append_assoc, List.nil_append]) (by simp only [List.length_append, List.length_nil, l0, l1, l2]) (by simp only [List.append_assoc, List.nil_append]) (by simp only [List.length_append, List.length_nil, m0, m1, m2]) neq_int ?_
  intro a S
  refine q_cell (off := 11) (pre := ((([] ++ u0) ++ u1) ++ u2) ++ u3) (post := u5 ++ (u6 ++ (u7 ++ (u8 ++ (u9))))) (pre' := ((([] ++ y0) ++ y1) ++ y2) ++ y3) (post' := y5 ++ (y6 ++ (y7 ++ (y8 ++ (y9))))) S (by decide) (by kernel_rfl) ⟨by kernel_rfl, by kernel_rfl⟩ (.int .i64 x4) h4 g4 (by simp only [List.append_assoc, List.nil_append]) (by simp only [List.length_append, List.length_nil, l0, l1, l2, l3]) (by simp only [List.append_assoc, List.nil_append]) (by simp only [List.length_append, List.length_nil, m0, m1, m2, m3]) neq_int ?_
  intro a S
  refine q_call (n := 1) (off := 12) (pre := (((([] ++ u0) ++ u1) ++ u2) ++ u3) ++ u4) (post := u6 ++ (u7 ++ (u8 ++ (u9)))) (pre' := (((([] ++ y0) ++ y1) ++ y2) ++ y3) ++ y4) (post' := y6 ++ (y7 ++ (y8 ++ (y9)))) S (by decide) (by kernel_rfl) cIntS x5 v1 rfl (Or.inr ⟨rfl, ⟨by kernel_rfl, by kernel_rfl⟩, rfl⟩) ⟨_, Tryz.func41, by kernel_rfl, by kernel_rfl⟩ eqIntS_c h5 g5 t5 (by simp only [List.append_assoc, List.nil_append]) (by simp only [List.length_append, List.length_nil, l0, l1, l2, l3, l4]) (by simp only [List.append_assoc, List.nil_append]) (by simp only [List.length_append, List.length_nil, m0, m1, m2, m3, m4]) ?_
  intro a W S
  refine q_call (n := 8) (off := 13) (pre := ((((([] ++ u0) ++ u1) ++ u2) ++ u3) ++ u4) ++ u5) (post := u7 ++ (u8 ++ (u9))) (pre' := ((((([] ++ y0) ++ y1) ++ y2) ++ y3) ++ y4) ++ y5) (post' := y7 ++ (y8 ++ (y9))) S (by decide) (by kernel_rfl) cIntA8 x6 vA rfl (Or.inl ⟨rfl, ⟨by kernel_rfl, by kernel_rfl⟩⟩) ⟨_, Tryz.func71, by kernel_rfl, by kernel_rfl⟩ eqIntA8_c h6 g6 t6 (by simp only [List.append_assoc, List.nil_append]) (by simp only [List.length_append, List.length_nil, l0, l1, l2, l3, l4, l5]) (by simp only [List.append_assoc, List.nil_append]) (by simp only [List.length_append, List.length_nil, m0, m1, m2, m3, m4, m5]) ?_
  intro a W S
  refine q_call (n := 8) (off := 21) (pre := (((((([] ++ u0) ++ u1) ++ u2) ++ u3) ++ u4) ++ u5) ++ u6) (post := u8 ++ (u9)) (pre' := (((((([] ++ y0) ++ y1) ++ y2) ++ y3) ++ y4) ++ y5) ++ y6) (post' := y8 ++ (y9)) S (by decide) (by kernel_rfl) cIntA8 x7 vA rfl (Or.inl ⟨rfl, ⟨by kernel_rfl, by kernel_rfl⟩⟩) ⟨_, Tryz.func71, by kernel_rfl, by kernel_rfl⟩ eqIntA8_c h7 g7 t7 (by simp only [List.append_assoc, List.nil_append]) (by simp only [List.length_append, List.length_nil, l0, l1, l2, l3, l4, l5, l6]) (by simp only [List.append_assoc, List.nil_append]) (by simp only [List.length_append, List.length_nil, m0, m1, m2, m3, m4, m5, m6]) ?_
  intro a W S
  refine q_cell (off := 29) (pre := ((((((([] ++ u0) ++ u1) ++ u2) ++ u3) ++ u4) ++ u5) ++ u6) ++ u7) (post := u9) (pre' := ((((((([] ++ y0) ++ y1) ++ y2) ++ y3) ++ y4) ++ y5) ++ y6) ++ y7) (post' := y9) S (by decide) (by kernel_rfl) ⟨by kernel_rfl, by kernel_rfl⟩ (.int .i64 x8) h8 g8 (by simp only [List.append_assoc, List.nil_append]) (by simp only [List.length_append, List.length_nil, l0, l1, l2, l3, l4, l5, l6, l7]) (by simp only [List.append_assoc, List.nil_append]) (by simp only [List.length_append, List.length_nil, m0, m1, m2, m3, m4, m5, m6, m7]) neq_int ?_
  intro a S
  refine q_cell (off := 30) (pre := (((((((([] ++ u0) ++ u1) ++ u2) ++ u3) ++ u4) ++ u5) ++ u6) ++ u7) ++ u8) (post := []) (pre' := (((((((([] ++ y0) ++ y1) ++ y2) ++ y3) ++ y4) ++ y5) ++ y6) ++ y7) ++ y8) (post' := []) S (by decide) (by kernel_rfl) ⟨by kernel_rfl, by kernel_rfl⟩ (.int .i64 x9) h9 g9 (by simp only [List.append_assoc, List.nil_append, List.append_nil]) (by simp only [List.length_append, List.length_nil, l0, l1, l2, l3, l4, l5, l6, l7, l8]) (by simp only [List.append_assoc, List.nil_append, List.append_nil]) (by simp only [List.length_append, List.length_nil, m0, m1, m2, m3, m4, m5, m6, m7, m8]) neq_int ?_
  intro a S
  exact q_tail S (by decide) rfl (fun hb => ⟨rfl, hb⟩)
set_option maxRecDepth 10000 in
set_option maxHeartbeats 2000000 in
theorem eqAddr_c : EqC Tryz.prog cAddr vA 105 := by
  intro us vs x w hr hs ht
  obtain ⟨⟨⟨_, x0⟩, x1⟩, x2⟩ := x
  obtain ⟨_, u2, rfl, ⟨_, u1, rfl, ⟨_, u0, rfl, rfl, h0⟩, h1⟩, h2⟩ := hr
  obtain ⟨_, y2, rfl, ⟨_, y1, rfl, ⟨_, y0, rfl, rfl, g0⟩, g1⟩, g2⟩ := hs
  replace ht := (tot_two ht).1
  replace ht := (tot_two ht).1
  replace ht := (tot_two ht).1
  have l0 : u0.length = 1 := cBool.len h0
  have m0 : y0.length = 1 := cBool.len g0
  have l1 : u1.length = 1 := cInt.len h1
  have m1 : y1.length = 1 := cInt.len g1
  refine calls_of_wp Tryz.func105 rfl ?_
  refine q_head (us := (([] ++ u0) ++ u1) ++ u2) (vs := (([] ++ y0) ++ y1) ++ y2) (N := 20) rfl rfl rfl (by decide) ?_
  intro a W S
  refine q_cell (off := 0) (pre := []) (post := u1 ++ (u2)) (pre' := []) (post' := y1 ++ (y2)) S (by decide) (by kernel_rfl) ⟨by kernel_rfl, by kernel_rfl⟩ (.bool x0) h0 g0 (by simp only [List.append_assoc, List.nil_append]) rfl (by simp only [List.append_assoc, List.nil_append]) rfl (neq_bool (by kernel_rfl)) ?_
  intro a S
  refine q_cell (off := 1) (pre := [] ++ u0) (post := u2) (pre' := [] ++ y0) (post' := y2) S (by decide) (by kernel_rfl) ⟨by kernel_rfl, by kernel_rfl⟩ (.int .i64 x1) h1 g1 (by simp only [List.append_assoc, List.nil_append]) (by simp only [List.length_append, List.length_nil, l0]) (by simp only [List.append_assoc, List.nil_append]) (by simp only [List.length_append, List.length_nil, m0]) neq_int ?_
  intro a S
  refine q_cell (off := 2) (pre := ([] ++ u0) ++ u1) (post := []) (pre' := ([] ++ y0) ++ y1) (post' := []) S (by decide) (by kernel_rfl) ⟨by kernel_rfl, by kernel_rfl⟩ (.int .i64 x2) h2 g2 (by simp only [List.append_assoc, List.nil_append, List.append_nil]) (by simp only [List.length_append, List.length_nil, l0, l1]) (by simp only [List.append_assoc, List.nil_append, List.append_nil]) (by simp only [List.length_append, List.length_nil, m0, m1]) neq_int ?_
  intro a S
  exact q_tail S (by decide) rfl (fun hb => ⟨rfl, hb⟩)
set_option maxRecDepth 10000 in
set_option maxHeartbeats 2000000 in
theorem eqPrefix_c : EqC Tryz.prog cPrefix vA 104 := by
  intro us vs x w hr hs ht
  obtain ⟨⟨_, x0⟩, x1⟩ := x
  obtain ⟨_, u1, rfl, ⟨_, u0, rfl, rfl, h0⟩, h1⟩ := hr
  obtain ⟨_, y1, rfl, ⟨_, y0, rfl, rfl, g0⟩, g1⟩ := hs
  replace ht := (tot_two ht).1
  obtain ⟨ht, t0⟩ := tot_two ht
  have l0 : u0.length = 3 := cAddr.len h0
  have m0 : y0.length = 3 := cAddr.len g0
  refine calls_of_wp Tryz.func104 rfl ?_
  refine q_head (us := ([] ++ u0) ++ u1) (vs := ([] ++ y0) ++ y1) (N := 16) rfl rfl rfl (by decide) ?_
  intro a W S
  refine q_call (n := 3) (off := 0) (pre := []) (post := u1) (pre' := []) (post' := y1) S (by decide) (by kernel_rfl) cAddr x0 vA rfl (Or.inl ⟨rfl, ⟨by kernel_rfl, by kernel_rfl⟩⟩) ⟨_, Tryz.func105, by kernel_rfl, by kernel_rfl⟩ eqAddr_c h0 g0 t0 (by simp only [List.nil_append]) rfl (by simp only [List.nil_append]) rfl ?_
  intro a W S
  refine q_cell (off := 3) (pre := [] ++ u0) (post := []) (pre' := [] ++ y0) (post' := []) S (by decide) (by kernel_rfl) ⟨by kernel_rfl, by kernel_rfl⟩ (.int .i64 x1) h1 g1 (by simp only [List.nil_append, List.append_nil]) (by simp only [List.length_append, List.length_nil, l0]) (by simp only [List.nil_append, List.append_nil]) (by simp only [List.length_append, List.length_nil, m0]) neq_int ?_
  intro a S
  exact q_tail S (by decide) rfl (fun hb => ⟨rfl, hb⟩)
set_option maxRecDepth 10000 in
set_option maxHeartbeats 2000000 in
theorem eqPool_c : EqC Tryz.prog cPool vA 98 := by
  intro us vs x w hr hs ht
  obtain ⟨⟨_, x0⟩, x1⟩ := x
  obtain ⟨_, u1, rfl, ⟨_, u0, rfl, rfl, h0⟩, h1⟩ := hr
  obtain ⟨_, y1, rfl, ⟨_, y0, rfl, rfl, g0⟩, g1⟩ := hs
  replace ht := (tot_two ht).1
  obtain ⟨ht, t0⟩ := tot_two ht
  have l0 : u0.length = 4 := cPrefix.len h0
  have m0 : y0.length = 4 := cPrefix.len g0
  refine calls_of_wp Tryz.func98 rfl ?_
  refine q_head (us := ([] ++ u0) ++ u1) (vs := ([] ++ y0) ++ y1) (N := 16) rfl rfl rfl (by decide) ?_
  intro a W S
  refine q_call (n := 4) (off := 0) (pre := []) (post := u1) (pre' := []) (post' := y1) S (by decide) (by kernel_rfl) cPrefix x0 vA rfl (Or.inl ⟨rfl, ⟨by kernel_rfl, by kernel_rfl⟩⟩) ⟨_, Tryz.func104, by kernel_rfl, by kernel_rfl⟩ eqPrefix_c h0 g0 t0 (by simp only [List.nil_append]) rfl (by simp only [List.nil_append]) rfl ?_
  intro a W S
  refine q_cell (off := 4) (pre := [] ++ u0) (post := []) (pre' := [] ++ y0) (post' := []) S (by decide) (by kernel_rfl) ⟨by kernel_rfl, by kernel_rfl⟩ (.int .i64 x1) h1 g1 (by simp only [List.nil_append, List.append_nil]) (by simp only [List.length_append, List.length_nil, l0]) (by simp only [List.nil_append, List.append_nil]) (by simp only [List.length_append, List.length_nil, m0]) neq_int ?_
  intro a S
  exact q_tail S (by decide) rfl (fun hb => ⟨rfl, hb⟩)
set_option maxRecDepth 10000 in
set_option maxHeartbeats 2000000 in
theorem eqPoolS_c : EqC Tryz.prog cPoolS v1 87 := by
  rintro us vs xs w ⟨o, c, rfl, hl, hr⟩ ⟨o', c', rfl, _, hr'⟩ ht
  have h0 := sumT_nn cPool.nn xs
  have h1 : (xs.length : Int) + sumT cPool.tot xs ≤ 1048576 := ht
  show Calls _ _ #[.slice o xs.length c, .slice o' xs.length c'] w _
  refine calls_of_wp Tryz.func87 rfl ?_
  exact row_eq (N := 27) rfl (by decide) rfl (by kernel_rfl) w o o' xs.length c c' (by omega) (fun i a W hi h Q q hp => body_eqC (T := cPool) (eA := 117) (by kernel_rfl) (by decide) (by kernel_rfl) (by kernel_rfl) rfl ⟨by kernel_rfl, by kernel_rfl⟩ ⟨_, Tryz.func98, by kernel_rfl, by kernel_rfl⟩ eqPool_c rfl hr hr' (fun x hx => by have := sumT_mem cPool.nn hx; omega) i a W hi h Q q hp)
set_option maxRecDepth 10000 in
set_option maxHeartbeats 2000000 in
theorem eqBlock_c : EqC Tryz.prog cBlock vA 99 := by
  intro us vs x w hr hs ht
  obtain ⟨⟨_, x0⟩, x1⟩ := x
  obtain ⟨_, u1, rfl, ⟨_, u0, rfl, rfl, h0⟩, h1⟩ := hr
  obtain ⟨_, y1, rfl, ⟨_, y0, rfl, rfl, g0⟩, g1⟩ := hs
  replace ht := (tot_two ht).1
  obtain ⟨ht, t0⟩ := tot_two ht
  have l0 : u0.length = 4 := cPrefix.len h0
  have m0 : y0.length = 4 := cPrefix.len g0
  refine calls_of_wp Tryz.func99 rfl ?_
  refine q_head (us := ([] ++ u0) ++ u1) (vs := ([] ++ y0) ++ y1) (N := 16) rfl rfl rfl (by decide) ?_
  intro a W S
  refine q_call (n := 4) (off := 0) (pre := []) (post := u1) (pre' := []) (post' := y1) S (by decide) (by kernel_rfl) cPrefix x0 vA rfl (Or.inl ⟨rfl, ⟨by kernel_rfl, by kernel_rfl⟩⟩) ⟨_, Tryz.func104, by kernel_rfl, by kernel_rfl⟩ eqPrefix_c h0 g0 t0 (by simp only [List.nil_append]) rfl (by simp only [List.nil_append]) rfl ?_
  intro a W S
  refine q_cell (off := 4) (pre := [] ++ u0) (post := []) (pre' := [] ++ y0) (post' := []) S (by decide) (by kernel_rfl) ⟨by kernel_rfl, by kernel_rfl⟩ (.string x1) h1.1 g1.1 (by simp only [List.nil_append, List.append_nil]) (by simp only [List.length_append, List.length_nil, l0]) (by simp only [List.nil_append, List.append_nil]) (by simp only [List.length_append, List.length_nil, m0]) neq_str ?_
  intro a S
  exact q_tail S (by decide) rfl (fun hb => ⟨rfl, hb⟩)
set_option maxRecDepth 10000 in
set_option maxHeartbeats 2000000 in
theorem eqBlockS_c : EqC Tryz.prog cBlockS v1 88 := by
  rintro us vs xs w ⟨o, c, rfl, hl, hr⟩ ⟨o', c', rfl, _, hr'⟩ ht
  have h0 := sumT_nn cBlock.nn xs
  have h1 : (xs.length : Int) + sumT cBlock.tot xs ≤ 1048576 := ht
  show Calls _ _ #[.slice o xs.length c, .slice o' xs.length c'] w _
  refine calls_of_wp Tryz.func88 rfl ?_
  exact row_eq (N := 27) rfl (by decide) rfl (by kernel_rfl) w o o' xs.length c c' (by omega) (fun i a W hi h Q q hp => body_eqC (T := cBlock) (eA := 119) (by kernel_rfl) (by decide) (by kernel_rfl) (by kernel_rfl) rfl ⟨by kernel_rfl, by kernel_rfl⟩ ⟨_, Tryz.func99, by kernel_rfl, by kernel_rfl⟩ eqBlock_c rfl hr hr' (fun x hx => by have := sumT_mem cBlock.nn hx; omega) i a W hi h Q q hp)
set_option maxRecDepth 10000 in
set_option maxHeartbeats 2000000 in
theorem eqPlan_c : EqC Tryz.prog cPlan vA 72 := by
  intro us vs x w hr hs ht
  obtain ⟨⟨_, x0⟩, x1⟩ := x
  obtain ⟨_, u1, rfl, ⟨_, u0, rfl, rfl, h0⟩, h1⟩ := hr
  obtain ⟨_, y1, rfl, ⟨_, y0, rfl, rfl, g0⟩, g1⟩ := hs
  obtain ⟨ht, t1⟩ := tot_two ht
  obtain ⟨ht, t0⟩ := tot_two ht
  have l0 : u0.length = 1 := cPoolS.len h0
  have m0 : y0.length = 1 := cPoolS.len g0
  refine calls_of_wp Tryz.func72 rfl ?_
  refine q_head (us := ([] ++ u0) ++ u1) (vs := ([] ++ y0) ++ y1) (N := 17) rfl rfl rfl (by decide) ?_
  intro a W S
  refine q_call (n := 1) (off := 0) (pre := []) (post := u1) (pre' := []) (post' := y1) S (by decide) (by kernel_rfl) cPoolS x0 v1 rfl (Or.inr ⟨rfl, ⟨by kernel_rfl, by kernel_rfl⟩, rfl⟩) ⟨_, Tryz.func87, by kernel_rfl, by kernel_rfl⟩ eqPoolS_c h0 g0 t0 (by simp only [List.nil_append]) rfl (by simp only [List.nil_append]) rfl ?_
  intro a W S
  refine q_call (n := 1) (off := 1) (pre := [] ++ u0) (post := []) (pre' := [] ++ y0) (post' := []) S (by decide) (by kernel_rfl) cBlockS x1 v1 rfl (Or.inr ⟨rfl, ⟨by kernel_rfl, by kernel_rfl⟩, rfl⟩) ⟨_, Tryz.func88, by kernel_rfl, by kernel_rfl⟩ eqBlockS_c h1 g1 t1 (by simp only [List.nil_append, List.append_nil]) (by simp only [List.length_append, List.length_nil, l0]) (by simp only [List.nil_append, List.append_nil]) (by simp only [List.length_append, List.length_nil, m0]) ?_
  intro a W S
  exact q_tail S (by decide) rfl (fun hb => ⟨rfl, hb⟩)
set_option maxRecDepth 10000 in
set_option maxHeartbeats 2000000 in
theorem eqLease_c : EqC Tryz.prog cLease vA 100 := by
  intro us vs x w hr hs ht
  obtain ⟨⟨⟨⟨_, x0⟩, x1⟩, x2⟩, x3⟩ := x
  obtain ⟨_, u3, rfl, ⟨_, u2, rfl, ⟨_, u1, rfl, ⟨_, u0, rfl, rfl, h0⟩, h1⟩, h2⟩, h3⟩ := hr
  obtain ⟨_, y3, rfl, ⟨_, y2, rfl, ⟨_, y1, rfl, ⟨_, y0, rfl, rfl, g0⟩, g1⟩, g2⟩, g3⟩ := hs
  replace ht := (tot_two ht).1
  replace ht := (tot_two ht).1
  replace ht := (tot_two ht).1
  obtain ⟨ht, t0⟩ := tot_two ht
  have l0 : u0.length = 3 := cAddr.len h0
  have m0 : y0.length = 3 := cAddr.len g0
  have l1 : u1.length = 1 := cStr.len h1
  have m1 : y1.length = 1 := cStr.len g1
  have l2 : u2.length = 1 := cInt.len h2
  have m2 : y2.length = 1 := cInt.len g2
  refine calls_of_wp Tryz.func100 rfl ?_
  refine q_head (us := ((([] ++ u0) ++ u1) ++ u2) ++ u3) (vs := ((([] ++ y0) ++ y1) ++ y2) ++ y3) (N := 26) rfl rfl rfl (by decide) ?_
  intro a W S
  refine q_call (n := 3) (off := 0) (pre := []) (post := u1 ++ (u2 ++ (u3))) (pre' := []) (post' := y1 ++ (y2 ++ (y3))) S (by decide) (by kernel_rfl) cAddr x0 vA rfl (Or.inl ⟨rfl, ⟨by kernel_rfl, by kernel_rfl⟩⟩) ⟨_, Tryz.func105, by kernel_rfl, by kernel_rfl⟩ eqAddr_c h0 g0 t0 (by simp only [List.append_assoc, List.nil_append]) rfl (by simp only [List.append_assoc, List.nil_append]) rfl ?_
  intro a W S
  refine q_cell (off := 3) (pre := [] ++ u0) (post := u2 ++ (u3)) (pre' := [] ++ y0) (post' := y2 ++ (y3)) S (by decide) (by kernel_rfl) ⟨by kernel_rfl, by kernel_rfl⟩ (.string x1) h1.1 g1.1 (by simp only [List.append_assoc, List.nil_append]) (by simp only [List.length_append, List.length_nil, l0]) (by simp only [List.append_assoc, List.nil_append]) (by simp only [List.length_append, List.length_nil, m0]) neq_str ?_
  intro a S
  refine q_cell (off := 4) (pre := ([] ++ u0) ++ u1) (post := u3) (pre' := ([] ++ y0) ++ y1) (post' := y3) S (by decide) (by kernel_rfl) ⟨by kernel_rfl, by kernel_rfl⟩ (.int .i64 x2) h2 g2 (by simp only [List.append_assoc, List.nil_append]) (by simp only [List.length_append, List.length_nil, l0, l1]) (by simp only [List.append_assoc, List.nil_append]) (by simp only [List.length_append, List.length_nil, m0, m1]) neq_int ?_
  intro a S
  refine q_cell (off := 5) (pre := (([] ++ u0) ++ u1) ++ u2) (post := []) (pre' := (([] ++ y0) ++ y1) ++ y2) (post' := []) S (by decide) (by kernel_rfl) ⟨by kernel_rfl, by kernel_rfl⟩ (.int .i64 x3) h3 g3 (by simp only [List.append_assoc, List.nil_append, List.append_nil]) (by simp only [List.length_append, List.length_nil, l0, l1, l2]) (by simp only [List.append_assoc, List.nil_append, List.append_nil]) (by simp only [List.length_append, List.length_nil, m0, m1, m2]) neq_int ?_
  intro a S
  exact q_tail S (by decide) rfl (fun hb => ⟨rfl, hb⟩)
set_option maxRecDepth 10000 in
set_option maxHeartbeats 2000000 in
theorem eqLeaseS_c : EqC Tryz.prog cLeaseS v1 89 := by
  rintro us vs xs w ⟨o, c, rfl, hl, hr⟩ ⟨o', c', rfl, _, hr'⟩ ht
  have h0 := sumT_nn cLease.nn xs
  have h1 : (xs.length : Int) + sumT cLease.tot xs ≤ 1048576 := ht
  show Calls _ _ #[.slice o xs.length c, .slice o' xs.length c'] w _
  refine calls_of_wp Tryz.func89 rfl ?_
  exact row_eq (N := 27) rfl (by decide) rfl (by kernel_rfl) w o o' xs.length c c' (by omega) (fun i a W hi h Q q hp => body_eqC (T := cLease) (eA := 121) (by kernel_rfl) (by decide) (by kernel_rfl) (by kernel_rfl) rfl ⟨by kernel_rfl, by kernel_rfl⟩ ⟨_, Tryz.func100, by kernel_rfl, by kernel_rfl⟩ eqLease_c rfl hr hr' (fun x hx => by have := sumT_mem cLease.nn hx; omega) i a W hi h Q q hp)
set_option maxRecDepth 10000 in
set_option maxHeartbeats 2000000 in
theorem eqBook_c : EqC Tryz.prog cBook vA 73 := by
  intro us vs x w hr hs ht
  obtain ⟨⟨⟨_, x0⟩, x1⟩, x2⟩ := x
  obtain ⟨_, u2, rfl, ⟨_, u1, rfl, ⟨_, u0, rfl, rfl, h0⟩, h1⟩, h2⟩ := hr
  obtain ⟨_, y2, rfl, ⟨_, y1, rfl, ⟨_, y0, rfl, rfl, g0⟩, g1⟩, g2⟩ := hs
  replace ht := (tot_two ht).1
  replace ht := (tot_two ht).1
  obtain ⟨ht, t0⟩ := tot_two ht
  have l0 : u0.length = 1 := cLeaseS.len h0
  have m0 : y0.length = 1 := cLeaseS.len g0
  have l1 : u1.length = 1 := cInt.len h1
  have m1 : y1.length = 1 := cInt.len g1
  refine calls_of_wp Tryz.func73 rfl ?_
  refine q_head (us := (([] ++ u0) ++ u1) ++ u2) (vs := (([] ++ y0) ++ y1) ++ y2) (N := 21) rfl rfl rfl (by decide) ?_
  intro a W S
  refine q_call (n := 1) (off := 0) (pre := []) (post := u1 ++ (u2)) (pre' := []) (post' := y1 ++ (y2)) S (by decide) (by kernel_rfl) cLeaseS x0 v1 rfl (Or.inr ⟨rfl, ⟨by kernel_rfl, by kernel_rfl⟩, rfl⟩) ⟨_, Tryz.func89, by kernel_rfl, by kernel_rfl⟩ eqLeaseS_c h0 g0 t0 (by simp only [List.append_assoc, List.nil_append]) rfl (by simp only [List.append_assoc, List.nil_append]) rfl ?_
  intro a W S
  refine q_cell (off := 1) (pre := [] ++ u0) (post := u2) (pre' := [] ++ y0) (post' := y2) S (by decide) (by kernel_rfl) ⟨by kernel_rfl, by kernel_rfl⟩ (.int .i64 x1) h1 g1 (by simp only [List.append_assoc, List.nil_append]) (by simp only [List.length_append, List.length_nil, l0]) (by simp only [List.append_assoc, List.nil_append]) (by simp only [List.length_append, List.length_nil, m0]) neq_int ?_
  intro a S
  refine q_cell (off := 2) (pre := ([] ++ u0) ++ u1) (post := []) (pre' := ([] ++ y0) ++ y1) (post' := []) S (by decide) (by kernel_rfl) ⟨by kernel_rfl, by kernel_rfl⟩ (.int .i64 x2) h2 g2 (by simp only [List.append_assoc, List.nil_append, List.append_nil]) (by simp only [List.length_append, List.length_nil, l0, l1]) (by simp only [List.append_assoc, List.nil_append, List.append_nil]) (by simp only [List.length_append, List.length_nil, m0, m1]) neq_int ?_
  intro a S
  exact q_tail S (by decide) rfl (fun hb => ⟨rfl, hb⟩)
set_option maxRecDepth 10000 in
set_option maxHeartbeats 2000000 in
theorem eqSession_c : EqC Tryz.prog cSession vA 101 := by
  intro us vs x w hr hs ht
  obtain ⟨⟨⟨⟨_, x0⟩, x1⟩, x2⟩, x3⟩ := x
  obtain ⟨_, u3, rfl, ⟨_, u2, rfl, ⟨_, u1, rfl, ⟨_, u0, rfl, rfl, h0⟩, h1⟩, h2⟩, h3⟩ := hr
  obtain ⟨_, y3, rfl, ⟨_, y2, rfl, ⟨_, y1, rfl, ⟨_, y0, rfl, rfl, g0⟩, g1⟩, g2⟩, g3⟩ := hs
  replace ht := (tot_two ht).1
  replace ht := (tot_two ht).1
  replace ht := (tot_two ht).1
  replace ht := (tot_two ht).1
  have l0 : u0.length = 1 := cInt.len h0
  have m0 : y0.length = 1 := cInt.len g0
  have l1 : u1.length = 1 := cInt.len h1
  have m1 : y1.length = 1 := cInt.len g1
  have l2 : u2.length = 1 := cStr.len h2
  have m2 : y2.length = 1 := cStr.len g2
  refine calls_of_wp Tryz.func101 rfl ?_
  refine q_head (us := ((([] ++ u0) ++ u1) ++ u2) ++ u3) (vs := ((([] ++ y0) ++ y1) ++ y2) ++ y3) (N := 25) rfl rfl rfl (by decide) ?_
  intro a W S
  refine q_cell (off := 0) (pre := []) (post := u1 ++ (u2 ++ (u3))) (pre' := []) (post' := y1 ++ (y2 ++ (y3))) S (by decide) (by kernel_rfl) ⟨by kernel_rfl, by kernel_rfl⟩ (.int .i64 x0) h0 g0 (by simp only [List.append_assoc, List.nil_append]) rfl (by simp only [List.append_assoc, List.nil_append]) rfl neq_int ?_
  intro a S
  refine q_cell (off := 1) (pre := [] ++ u0) (post := u2 ++ (u3)) (pre' := [] ++ y0) (post' := y2 ++ (y3)) S (by decide) (by kernel_rfl) ⟨by kernel_rfl, by kernel_rfl⟩ (.int .i64 x1) h1 g1 (by simp only [List.append_assoc, List.nil_append]) (by simp only [List.length_append, List.length_nil, l0]) (by simp only [List.append_assoc, List.nil_append]) (by simp only [List.length_append, List.length_nil, m0]) neq_int ?_
  intro a S
  refine q_cell (off := 2) (pre := ([] ++ u0) ++ u1) (post := u3) (pre' := ([] ++ y0) ++ y1) (post' := y3) S (by decide) (by kernel_rfl) ⟨by kernel_rfl, by kernel_rfl⟩ (.string x2) h2.1 g2.1 (by simp only [List.append_assoc, List.nil_append]) (by simp only [List.length_append, List.length_nil, l0, l1]) (by simp only [List.append_assoc, List.nil_append]) (by simp only [List.length_append, List.length_nil, m0, m1]) neq_str ?_
  intro a S
  refine q_cell (off := 3) (pre := (([] ++ u0) ++ u1) ++ u2) (post := []) (pre' := (([] ++ y0) ++ y1) ++ y2) (post' := []) S (by decide) (by kernel_rfl) ⟨by kernel_rfl, by kernel_rfl⟩ (.int .i64 x3) h3 g3 (by simp only [List.append_assoc, List.nil_append, List.append_nil]) (by simp only [List.length_append, List.length_nil, l0, l1, l2]) (by simp only [List.append_assoc, List.nil_append, List.append_nil]) (by simp only [List.length_append, List.length_nil, m0, m1, m2]) neq_int ?_
  intro a S
  exact q_tail S (by decide) rfl (fun hb => ⟨rfl, hb⟩)
set_option maxRecDepth 10000 in
set_option maxHeartbeats 2000000 in
theorem eqSessionS_c : EqC Tryz.prog cSessionS v1 90 := by
  rintro us vs xs w ⟨o, c, rfl, hl, hr⟩ ⟨o', c', rfl, _, hr'⟩ ht
  have h0 := sumT_nn cSession.nn xs
  have h1 : (xs.length : Int) + sumT cSession.tot xs ≤ 1048576 := ht
  show Calls _ _ #[.slice o xs.length c, .slice o' xs.length c'] w _
  refine calls_of_wp Tryz.func90 rfl ?_
  exact row_eq (N := 27) rfl (by decide) rfl (by kernel_rfl) w o o' xs.length c c' (by omega) (fun i a W hi h Q q hp => body_eqC (T := cSession) (eA := 123) (by kernel_rfl) (by decide) (by kernel_rfl) (by kernel_rfl) rfl ⟨by kernel_rfl, by kernel_rfl⟩ ⟨_, Tryz.func101, by kernel_rfl, by kernel_rfl⟩ eqSession_c rfl hr hr' (fun x hx => by have := sumT_mem cSession.nn hx; omega) i a W hi h Q q hp)
set_option maxRecDepth 10000 in
set_option maxHeartbeats 2000000 in
theorem eqDesk_c : EqC Tryz.prog cDesk vA 74 := by
  intro us vs x w hr hs ht
  obtain ⟨⟨_, x0⟩, x1⟩ := x
  obtain ⟨_, u1, rfl, ⟨_, u0, rfl, rfl, h0⟩, h1⟩ := hr
  obtain ⟨_, y1, rfl, ⟨_, y0, rfl, rfl, g0⟩, g1⟩ := hs
  replace ht := (tot_two ht).1
  obtain ⟨ht, t0⟩ := tot_two ht
  have l0 : u0.length = 1 := cSessionS.len h0
  have m0 : y0.length = 1 := cSessionS.len g0
  refine calls_of_wp Tryz.func74 rfl ?_
  refine q_head (us := ([] ++ u0) ++ u1) (vs := ([] ++ y0) ++ y1) (N := 16) rfl rfl rfl (by decide) ?_
  intro a W S
  refine q_call (n := 1) (off := 0) (pre := []) (post := u1) (pre' := []) (post' := y1) S (by decide) (by kernel_rfl) cSessionS x0 v1 rfl (Or.inr ⟨rfl, ⟨by kernel_rfl, by kernel_rfl⟩, rfl⟩) ⟨_, Tryz.func90, by kernel_rfl, by kernel_rfl⟩ eqSessionS_c h0 g0 t0 (by simp only [List.nil_append]) rfl (by simp only [List.nil_append]) rfl ?_
  intro a W S
  refine q_cell (off := 1) (pre := [] ++ u0) (post := []) (pre' := [] ++ y0) (post' := []) S (by decide) (by kernel_rfl) ⟨by kernel_rfl, by kernel_rfl⟩ (.int .i64 x1) h1 g1 (by simp only [List.nil_append, List.append_nil]) (by simp only [List.length_append, List.length_nil, l0]) (by simp only [List.nil_append, List.append_nil]) (by simp only [List.length_append, List.length_nil, m0]) neq_int ?_
  intro a S
  exact q_tail S (by decide) rfl (fun hb => ⟨rfl, hb⟩)
set_option maxRecDepth 10000 in
set_option maxHeartbeats 2000000 in
theorem eqState_c : EqC Tryz.prog cState vA 55 := by
  intro us vs x w hr hs ht
  obtain ⟨⟨⟨⟨_, x0⟩, x1⟩, x2⟩, x3⟩ := x
  obtain ⟨_, u3, rfl, ⟨_, u2, rfl, ⟨_, u1, rfl, ⟨_, u0, rfl, rfl, h0⟩, h1⟩, h2⟩, h3⟩ := hr
  obtain ⟨_, y3, rfl, ⟨_, y2, rfl, ⟨_, y1, rfl, ⟨_, y0, rfl, rfl, g0⟩, g1⟩, g2⟩, g3⟩ := hs
  replace ht := (tot_two ht).1
  obtain ⟨ht, t2⟩ := tot_two ht
  obtain ⟨ht, t1⟩ := tot_two ht
  obtain ⟨ht, t0⟩ := tot_two ht
  have l0 : u0.length = 2 := cPlan.len h0
  have m0 : y0.length = 2 := cPlan.len g0
  have l1 : u1.length = 3 := cBook.len h1
  have m1 : y1.length = 3 := cBook.len g1
  have l2 : u2.length = 2 := cDesk.len h2
  have m2 : y2.length = 2 := cDesk.len g2
  refine calls_of_wp Tryz.func55 rfl ?_
  refine q_head (us := ((([] ++ u0) ++ u1) ++ u2) ++ u3) (vs := ((([] ++ y0) ++ y1) ++ y2) ++ y3) (N := 28) rfl rfl rfl (by decide) ?_
  intro a W S
  refine q_call (n := 2) (off := 0) (pre := []) (post := u1 ++ (u2 ++ (u3))) (pre' := []) (post' := y1 ++ (y2 ++ (y3))) S (by decide) (by kernel_rfl) cPlan x0 vA rfl (Or.inl ⟨rfl, ⟨by kernel_rfl, by kernel_rfl⟩⟩) ⟨_, Tryz.func72, by kernel_rfl, by kernel_rfl⟩ eqPlan_c h0 g0 t0 (by simp only [List.append_assoc, List.nil_append]) rfl (by simp only [List.append_assoc, List.nil_append]) rfl ?_
  intro a W S
  refine q_call (n := 3) (off := 2) (pre := [] ++ u0) (post := u2 ++ (u3)) (pre' := [] ++ y0) (post' := y2 ++ (y3)) S (by decide) (by kernel_rfl) cBook x1 vA rfl (Or.inl ⟨rfl, ⟨by kernel_rfl, by kernel_rfl⟩⟩) ⟨_, Tryz.func73, by kernel_rfl, by kernel_rfl⟩ eqBook_c h1 g1 t1 (by simp only [List.append_assoc, List.nil_append]) (by simp only [List.length_append, List.length_nil, l0]) (by simp only [List.append_assoc, List.nil_append]) (by simp only [List.length_append, List.length_nil, m0]) ?_
  intro a W S
  refine q_call (n := 2) (off := 5) (pre := ([] ++ u0) ++ u1) (post := u3) (pre' := ([] ++ y0) ++ y1) (post' := y3) S (by decide) (by kernel_rfl) cDesk x2 vA rfl (Or.inl ⟨rfl, ⟨by kernel_rfl, by kernel_rfl⟩⟩) ⟨_, Tryz.func74, by kernel_rfl, by kernel_rfl⟩ eqDesk_c h2 g2 t2 (by simp only [List.append_assoc, List.nil_append]) (by simp only [List.length_append, List.length_nil, l0, l1]) (by simp only [List.append_assoc, List.nil_append]) (by simp only [List.length_append, List.length_nil, m0, m1]) ?_
  intro a W S
  refine q_cell (off := 7) (pre := (([] ++ u0) ++ u1) ++ u2) (post := []) (pre' := (([] ++ y0) ++ y1) ++ y2) (post' := []) S (by decide) (by kernel_rfl) ⟨by kernel_rfl, by kernel_rfl⟩ (.int .i64 x3) h3 g3 (by simp only [List.append_assoc, List.nil_append, List.append_nil]) (by simp only [List.length_append, List.length_nil, l0, l1, l2]) (by simp only [List.append_assoc, List.nil_append, List.append_nil]) (by simp only [List.length_append, List.length_nil, m0, m1, m2]) neq_int ?_
  intro a S
  exact q_tail S (by decide) rfl (fun hb => ⟨rfl, hb⟩)
set_option maxRecDepth 10000 in
set_option maxHeartbeats 2000000 in
theorem eqFile_c : EqC Tryz.prog cFile vA 56 := by
  intro us vs x w hr hs ht
  obtain ⟨⟨_, x0⟩, x1⟩ := x
  obtain ⟨_, u1, rfl, ⟨_, u0, rfl, rfl, h0⟩, h1⟩ := hr
  obtain ⟨_, y1, rfl, ⟨_, y0, rfl, rfl, g0⟩, g1⟩ := hs
  replace ht := (tot_two ht).1
  obtain ⟨ht, t0⟩ := tot_two ht
  have l0 : u0.length = 1 := cByteS.len h0
  have m0 : y0.length = 1 := cByteS.len g0
  refine calls_of_wp Tryz.func56 rfl ?_
  refine q_head (us := ([] ++ u0) ++ u1) (vs := ([] ++ y0) ++ y1) (N := 16) rfl rfl rfl (by decide) ?_
  intro a W S
  refine q_call (n := 1) (off := 0) (pre := []) (post := u1) (pre' := []) (post' := y1) S (by decide) (by kernel_rfl) cByteS x0 v1 rfl (Or.inr ⟨rfl, ⟨by kernel_rfl, by kernel_rfl⟩, rfl⟩) ⟨_, Tryz.func57, by kernel_rfl, by kernel_rfl⟩ eqByteS_c h0 g0 t0 (by simp only [List.nil_append]) rfl (by simp only [List.nil_append]) rfl ?_
  intro a W S
  refine q_cell (off := 1) (pre := [] ++ u0) (post := []) (pre' := [] ++ y0) (post' := []) S (by decide) (by kernel_rfl) ⟨by kernel_rfl, by kernel_rfl⟩ (.int .i64 x1) h1 g1 (by simp only [List.nil_append, List.append_nil]) (by simp only [List.length_append, List.length_nil, l0]) (by simp only [List.nil_append, List.append_nil]) (by simp only [List.length_append, List.length_nil, m0]) neq_int ?_
  intro a S
  exact q_tail S (by decide) rfl (fun hb => ⟨rfl, hb⟩)
set_option maxRecDepth 10000 in
set_option maxHeartbeats 2000000 in
theorem eqReplica_c : EqC Tryz.prog cReplica vA 40 := by
  intro us vs x w hr hs ht
  obtain ⟨⟨⟨⟨⟨_, x0⟩, x1⟩, x2⟩, x3⟩, x4⟩ := x
  obtain ⟨_, u4, rfl, ⟨_, u3, rfl, ⟨_, u2, rfl, ⟨_, u1, rfl, ⟨_, u0, rfl, rfl, h0⟩, h1⟩, h2⟩, h3⟩, h4⟩ := hr
  obtain ⟨_, y4, rfl, ⟨_, y3, rfl, ⟨_, y2, rfl, ⟨_, y1, rfl, ⟨_, y0, rfl, rfl, g0⟩, g1⟩, g2⟩, g3⟩, g4⟩ := hs
  replace ht := (tot_two ht).1
  obtain ⟨ht, t3⟩ := tot_two ht
  replace ht := (tot_two ht).1
  obtain ⟨ht, t1⟩ := tot_two ht
  obtain ⟨ht, t0⟩ := tot_two ht
  have l0 : u0.length = 31 := cServer.len h0
  have m0 : y0.length = 31 := cServer.len g0
  have l1 : u1.length = 8 := cState.len h1
  have m1 : y1.length = 8 := cState.len g1
  have l2 : u2.length = 1 := cInt.len h2
  have m2 : y2.length = 1 := cInt.len g2
  have l3 : u3.length = 2 := cFile.len h3
  have m3 : y3.length = 2 := cFile.len g3
  refine calls_of_wp Tryz.func40 rfl ?_
  refine q_head (us := (((([] ++ u0) ++ u1) ++ u2) ++ u3) ++ u4) (vs := (((([] ++ y0) ++ y1) ++ y2) ++ y3) ++ y4) (N := 33) rfl rfl rfl (by decide) ?_
  intro a W S
  refine q_call (n := 31) (off := 0) (pre := []) (post := u1 ++ (u2 ++ (u3 ++ (u4)))) (pre' := []) (post' := y1 ++ (y2 ++ (y3 ++ (y4)))) S (by decide) (by kernel_rfl) cServer x0 vA rfl (Or.inl ⟨rfl, ⟨by kernel_rfl, by kernel_rfl⟩⟩) ⟨_, Tryz.func54, by kernel_rfl, by kernel_rfl⟩ eqServer_c h0 g0 t0 (by simp only [List.append_assoc, List.nil_append]) rfl (by simp only [List.append_assoc, List.nil_append]) rfl ?_
  intro a W S
  refine q_call (n := 8) (off := 31) (pre := [] ++ u0) (post := u2 ++ (u3 ++ (u4))) (pre' := [] ++ y0) (post' := y2 ++ (y3 ++ (y4))) S (by decide) (by kernel_rfl) cState x1 vA rfl (Or.inl ⟨rfl, ⟨by kernel_rfl, by kernel_rfl⟩⟩) ⟨_, Tryz.func55, by kernel_rfl, by kernel_rfl⟩ eqState_c h1 g1 t1 (by simp only [List.append_assoc, List.nil_append]) (by simp only [List.length_append, List.length_nil, l0]) (by simp only [List.append_assoc, List.nil_append]) (by simp only [List.length_append, List.length_nil, m0]) ?_
  intro a W S
  refine q_cell (off := 39) (pre := ([] ++ u0) ++ u1) (post := u3 ++ (u4)) (pre' := ([] ++ y0) ++ y1) (post' := y3 ++ (y4)) S (by decide) (by kernel_rfl) ⟨by kernel_rfl, by kernel_rfl⟩ (.int .i64 x2) h2 g2 (by simp only [List.append_assoc, List.nil_append]) (by simp only [List.length_append, List.length_nil, l0, l1]) (by simp only [List.append_assoc, List.nil_append]) (by simp only [List.length_append, List.length_nil, m0, m1]) neq_int ?_
  intro a S
  refine q_call (n := 2) (off := 40) (pre := (([] ++ u0) ++ u1) ++ u2) (post := u4) (pre' := (([] ++ y0) ++ y1) ++ y2) (post' := y4) S (by decide) (by kernel_rfl) cFile x3 vA rfl (Or.inl ⟨rfl, ⟨by kernel_rfl, by kernel_rfl⟩⟩) ⟨_, Tryz.func56, by kernel_rfl, by kernel_rfl⟩ eqFile_c h3 g3 t3 (by simp only [List.append_assoc, List.nil_append]) (by simp only [List.length_append, List.length_nil, l0, l1, l2]) (by simp only [List.append_assoc, List.nil_append]) (by simp only [List.length_append, List.length_nil, m0, m1, m2]) ?_
  intro a W S
  refine q_cell (off := 42) (pre := ((([] ++ u0) ++ u1) ++ u2) ++ u3) (post := []) (pre' := ((([] ++ y0) ++ y1) ++ y2) ++ y3) (post' := []) S (by decide) (by kernel_rfl) ⟨by kernel_rfl, by kernel_rfl⟩ (.bool x4) h4 g4 (by simp only [List.append_assoc, List.nil_append, List.append_nil]) (by simp only [List.length_append, List.length_nil, l0, l1, l2, l3]) (by simp only [List.append_assoc, List.nil_append, List.append_nil]) (by simp only [List.length_append, List.length_nil, m0, m1, m2, m3]) (neq_bool (by kernel_rfl)) ?_
  intro a S
  exact q_tail S (by decide) rfl (fun hb => ⟨rfl, hb⟩)
set_option maxRecDepth 10000 in
set_option maxHeartbeats 2000000 in
theorem eqReplicaS_c : EqC Tryz.prog cReplicaS v1 23 := by
  rintro us vs xs w ⟨o, c, rfl, hl, hr⟩ ⟨o', c', rfl, _, hr'⟩ ht
  have h0 := sumT_nn cReplica.nn xs
  have h1 : (xs.length : Int) + sumT cReplica.tot xs ≤ 1048576 := ht
  show Calls _ _ #[.slice o xs.length c, .slice o' xs.length c'] w _
  refine calls_of_wp Tryz.func23 rfl ?_
  exact row_eq (N := 27) rfl (by decide) rfl (by kernel_rfl) w o o' xs.length c c' (by omega) (fun i a W hi h Q q hp => body_eqC (T := cReplica) (eA := 70) (by kernel_rfl) (by decide) (by kernel_rfl) (by kernel_rfl) rfl ⟨by kernel_rfl, by kernel_rfl⟩ ⟨_, Tryz.func40, by kernel_rfl, by kernel_rfl⟩ eqReplica_c rfl hr hr' (fun x hx => by have := sumT_mem cReplica.nn hx; omega) i a W hi h Q q hp)
set_option maxRecDepth 10000 in
set_option maxHeartbeats 2000000 in
theorem eqMsg_c : EqC Tryz.prog cMsg vA 42 := by
  intro us vs x w hr hs ht
  obtain ⟨⟨⟨⟨⟨⟨⟨⟨⟨⟨⟨_, x0⟩, x1⟩, x2⟩, x3⟩, x4⟩, x5⟩, x6⟩, x7⟩, x8⟩, x9⟩, x10⟩ := x
  obtain ⟨_, u10, rfl, ⟨_, u9, rfl, ⟨_, u8, rfl, ⟨_, u7, rfl, ⟨_, u6, rfl, ⟨_, u5, rfl, ⟨_, u4, rfl, ⟨_, u3, rfl, ⟨_, u2, rfl, ⟨_, u1, rfl, ⟨_, u0, rfl, rfl, h0⟩, h1⟩, h2⟩, h3⟩, h4⟩, h5⟩, h6⟩, h7⟩, h8⟩, h9⟩, h10⟩ := hr
  obtain ⟨_, y10, rfl, ⟨_, y9, rfl, ⟨_, y8, rfl, ⟨_, y7, rfl, ⟨_, y6, rfl, ⟨_, y5, rfl, ⟨_, y4, rfl, ⟨_, y3, rfl, ⟨_, y2, rfl, ⟨_, y1, rfl, ⟨_, y0, rfl, rfl, g0⟩, g1⟩, g2⟩, g3⟩, g4⟩, g5⟩, g6⟩, g7⟩, g8⟩, g9⟩, g10⟩ := hs
  obtain ⟨ht, t10⟩ := tot_two ht
  obtain ⟨ht, t9⟩ := tot_two ht
  replace ht := (tot_two ht).1
  replace ht := (tot_two ht).1
  obtain ⟨ht, t6⟩ := tot_two ht
  replace ht := (tot_two ht).1
  replace ht := (tot_two ht).1
  replace ht := (tot_two ht).1
  replace ht := (tot_two ht).1
  replace ht := (tot_two ht).1
  replace ht := (tot_two ht).1
  have l0 : u0.length = 1 := cInt.len h0
  have m0 : y0.length = 1 := cInt.len g0
  have l1 : u1.length = 1 := cInt.len h1
  have m1 : y1.length = 1 := cInt.len g1
  have l2 : u2.length = 1 := cInt.len h2
  have m2 : y2.length = 1 := cInt.len g2
  have l3 : u3.length = 1 := cInt.len h3
  have m3 : y3.length = 1 := cInt.len g3
  have l4 : u4.length = 1 := cInt.len h4
  have m4 : y4.length = 1 := cInt.len g4
  have l5 : u5.length = 1 := cInt.len h5
  have m5 : y5.length = 1 := cInt.len g5
  have l6 : u6.length = 1 := cEntryS.len h6
  have m6 : y6.length = 1 := cEntryS.len g6
  have l7 : u7.length = 1 := cInt.len h7
  have m7 : y7.length = 1 := cInt.len g7
  have l8 : u8.length = 1 := cBool.len h8
  have m8 : y8.length = 1 := cBool.len g8
  have l9 : u9.length = 1 := cByteS.len h9
  have m9 : y9.length = 1 := cByteS.len g9
  refine calls_of_wp Tryz.func42 rfl ?_
  refine q_head (us := (((((((((([] ++ u0) ++ u1) ++ u2) ++ u3) ++ u4) ++ u5) ++ u6) ++ u7) ++ u8) ++ u9) ++ u10) (vs := (((((((((([] ++ y0) ++ y1) ++ y2) ++ y3) ++ y4) ++ y5) ++ y6) ++ y7) ++ y8) ++ y9) ++ y10) (N := 63) rfl rfl rfl (by decide) ?_
  intro a W S
  refine q_cell (off := 0) (pre := []) (post := u1 ++ (u2 ++ (u3 ++ (u4 ++ (u5 ++ (u6 ++ (u7 ++ (u8 ++ (u9 ++ (u10)))))))))) (pre' := []) (post' := y1 ++ (y2 ++ (y3 ++ (y4 ++ (y5 ++ (y6 ++ (y7 ++ (y8 ++ (y9 ++ (y10)))))))))) S (by decide) (by kernel_rfl) ⟨by kernel_rfl, by kernel_rfl⟩ (.int .i64 x0) h0 g0 (by simp only [List.append_assoc, List.nil_append]) rfl (by simp only [List.append_assoc, List.nil_append]) rfl neq_int ?_
  intro a S
  refine q_cell (off := 1) (pre := [] ++ u0) (post := u2 ++ (u3 ++ (u4 ++ (u5 ++ (u6 ++ (u7 ++ (u8 ++ (u9 ++ (u10))))))))) (pre' := [] ++ y0) (post' := y2 ++ (y3 ++ (y4 ++ (y5 ++ (y6 ++ (y7 ++ (y8 ++ (y9 ++ (y10))))))))) S (by decide) (by kernel_rfl) ⟨by kernel_rfl, by kernel_rfl⟩ (.int .i64 x1) h1 g1 (by simp only [List.append_assoc, List.nil_append]) (by simp only [List.length_append, List.length_nil, l0]) (by simp only [List.append_assoc, List.nil_append]) (by simp only [List.length_append, List.length_nil, m0]) neq_int ?_
  intro a S
  refine q_cell (off := 2) (pre := ([] ++ u0) ++ u1) (post := u3 ++ (u4 ++ (u5 ++ (u6 ++ (u7 ++ (u8 ++ (u9 ++ (u10)))))))) (pre' := ([] ++ y0) ++ y1) (post' := y3 ++ (y4 ++ (y5 ++ (y6 ++ (y7 ++ (y8 ++ (y9 ++ (y10)))))))) S (by decide) (by kernel_rfl) ⟨by kernel_rfl, by kernel_rfl⟩ (.int .i64 x2) h2 g2 (by simp only [List.append_assoc, List.nil_append]) (by simp only [List.length_append, List.length_nil, l0, l1]) (by simp only [List.append_assoc, List.nil_append]) (by simp only [List.length_append, List.length_nil, m0, m1]) neq_int ?_
  intro a S
  refine q_cell (off := 3) (pre := (([] ++ u0) ++ u1) ++ u2) (post := u4 ++ (u5 ++ (u6 ++ (u7 ++ (u8 ++ (u9 ++ (u10))))))) (pre' := (([] ++ y0) ++ y1) ++ y2) (post' := y4 ++ (y5 ++ (y6 ++ (y7 ++ (y8 ++ (y9 ++ (y10))))))) S (by decide) (by kernel_rfl) ⟨by kernel_rfl, by kernel_rfl⟩ (.int .i64 x3) h3 g3 (by simp only [List.append_assoc, List.nil_append]) (by simp only [List.length_append, List.length_nil, l0, l1, l2]) (by simp only [List.append_assoc, List.nil_append]) (by simp only [List.length_append, List.length_nil, m0, m1, m2]) neq_int ?_
  intro a S
  refine q_cell (off := 4) (pre := ((([] ++ u0) ++ u1) ++ u2) ++ u3) (post := u5 ++ (u6 ++ (u7 ++ (u8 ++ (u9 ++ (u10)))))) (pre' := ((([] ++ y0) ++ y1) ++ y2) ++ y3) (post' := y5 ++ (y6 ++ (y7 ++ (y8 ++ (y9 ++ (y10)))))) S (by decide) (by kernel_rfl) ⟨by kernel_rfl, by kernel_rfl⟩ (.int .i64 x4) h4 g4 (by simp only [List.append_assoc, List.nil_append]) (by simp only [List.length_append, List.length_nil, l0, l1, l2, l3]) (by simp only [List.append_assoc, List.nil_append]) (by simp only [List.length_append, List.length_nil, m0, m1, m2, m3]) neq_int ?_
  intro a S
  refine q_cell (off := 5) (pre := (((([] ++ u0) ++ u1) ++ u2) ++ u3) ++ u4) (post := u6 ++ (u7 ++ (u8 ++ (u9 ++ (u10))))) (pre' := (((([] ++ y0) ++ y1) ++ y2) ++ y3) ++ y4) (post' := y6 ++ (y7 ++ (y8 ++ (y9 ++ (y10))))) S (by decide) (by kernel_rfl) ⟨by kernel_rfl, by kernel_rfl⟩ (.int .i64 x5) h5 g5 (by simp only [List.append_assoc, List.nil_append]) (by simp only [List.length_append, List.length_nil, l0, l1, l2, l3, l4]) (by simp only [List.append_assoc, List.nil_append]) (by simp only [List.length_append, List.length_nil, m0, m1, m2, m3, m4]) neq_int ?_
  intro a S
  refine q_call (n := 1) (off := 6) (pre := ((((([] ++ u0) ++ u1) ++ u2) ++ u3) ++ u4) ++ u5) (post := u7 ++ (u8 ++ (u9 ++ (u10)))) (pre' := ((((([] ++ y0) ++ y1) ++ y2) ++ y3) ++ y4) ++ y5) (post' := y7 ++ (y8 ++ (y9 ++ (y10)))) S (by decide) (by kernel_rfl) cEntryS x6 v1 rfl (Or.inr ⟨rfl, ⟨by kernel_rfl, by kernel_rfl⟩, rfl⟩) ⟨_, Tryz.func27, by kernel_rfl, by kernel_rfl⟩ eqEntryS_c h6 g6 t6 (by simp only [List.append_assoc, List.nil_append]) (by simp only [List.length_append, List.length_nil, l0, l1, l2, l3, l4, l5]) (by simp only [List.append_assoc, List.nil_append]) (by simp only [List.length_append, List.length_nil, m0, m1, m2, m3, m4, m5]) ?_
  intro a W S
  refine q_cell (off := 7) (pre := (((((([] ++ u0) ++ u1) ++ u2) ++ u3) ++ u4) ++ u5) ++ u6) (post := u8 ++ (u9 ++ (u10))) (pre' := (((((([] ++ y0) ++ y1) ++ y2) ++ y3) ++ y4) ++ y5) ++ y6) (post' := y8 ++ (y9 ++ (y10))) S (by decide) (by kernel_rfl) ⟨by kernel_rfl, by kernel_rfl⟩ (.int .i64 x7) h7 g7 (by simp only [List.append_assoc, List.nil_append]) (by simp only [List.length_append, List.length_nil, l0, l1, l2, l3, l4, l5, l6]) (by simp only [List.append_assoc, List.nil_append]) (by simp only [List.length_append, List.length_nil, m0, m1, m2, m3, m4, m5, m6]) neq_int ?_
  intro a S
  refine q_cell (off := 8) (pre := ((((((([] ++ u0) ++ u1) ++ u2) ++ u3) ++ u4) ++ u5) ++ u6) ++ u7) (post := u9 ++ (u10)) (pre' := ((((((([] ++ y0) ++ y1) ++ y2) ++ y3) ++ y4) ++ y5) ++ y6) ++ y7) (post' := y9 ++ (y10)) S (by decide) (by kernel_rfl) ⟨by kernel_rfl, by kernel_rfl⟩ (.bool x8) h8 g8 (by simp only [List.append_assoc, List.nil_append]) (by simp only [List.length_append, List.length_nil, l0, l1, l2, l3, l4, l5, l6, l7]) (by simp only [List.append_assoc, List.nil_append]) (by simp only [List.length_append, List.length_nil, m0, m1, m2, m3, m4, m5, m6, m7]) (neq_bool (by kernel_rfl)) ?_
  intro a S
  refine q_call (n := 1) (off := 9) (pre := (((((((([] ++ u0) ++ u1) ++ u2) ++ u3) ++ u4) ++ u5) ++ u6) ++ u7) ++ u8) (post := u10) (pre' := (((((((([] ++ y0) ++ y1) ++ y2) ++ y3) ++ y4) ++ y5) ++ y6) ++ y7) ++ y8) (post' := y10) S (by decide) (by kernel_rfl) cByteS x9 v1 rfl (Or.inr ⟨rfl, ⟨by kernel_rfl, by kernel_rfl⟩, rfl⟩) ⟨_, Tryz.func57, by kernel_rfl, by kernel_rfl⟩ eqByteS_c h9 g9 t9 (by simp only [List.append_assoc, List.nil_append]) (by simp only [List.length_append, List.length_nil, l0, l1, l2, l3, l4, l5, l6, l7, l8]) (by simp only [List.append_assoc, List.nil_append]) (by simp only [List.length_append, List.length_nil, m0, m1, m2, m3, m4, m5, m6, m7, m8]) ?_
  intro a W S
  refine q_call (n := 2) (off := 10) (pre := ((((((((([] ++ u0) ++ u1) ++ u2) ++ u3) ++ u4) ++ u5) ++ u6) ++ u7) ++ u8) ++ u9) (post := []) (pre' := ((((((((([] ++ y0) ++ y1) ++ y2) ++ y3) ++ y4) ++ y5) ++ y6) ++ y7) ++ y8) ++ y9) (post' := []) S (by decide) (by kernel_rfl) cGroup x10 vA rfl (Or.inl ⟨rfl, ⟨by kernel_rfl, by kernel_rfl⟩⟩) ⟨_, Tryz.func24, by kernel_rfl, by kernel_rfl⟩ eqGroup_c h10 g10 t10 (by simp only [List.append_assoc, List.nil_append, List.append_nil]) (by simp only [List.length_append, List.length_nil, l0, l1, l2, l3, l4, l5, l6, l7, l8, l9]) (by simp only [List.append_assoc, List.nil_append, List.append_nil]) (by simp only [List.length_append, List.length_nil, m0, m1, m2, m3, m4, m5, m6, m7, m8, m9]) ?_
  intro a W S
  exact q_tail S (by decide) rfl (fun hb => ⟨rfl, hb⟩)
set_option maxRecDepth 10000 in
set_option maxHeartbeats 2000000 in
theorem eqMsgS_c : EqC Tryz.prog cMsgS v1 25 := by
  rintro us vs xs w ⟨o, c, rfl, hl, hr⟩ ⟨o', c', rfl, _, hr'⟩ ht
  have h0 := sumT_nn cMsg.nn xs
  have h1 : (xs.length : Int) + sumT cMsg.tot xs ≤ 1048576 := ht
  show Calls _ _ #[.slice o xs.length c, .slice o' xs.length c'] w _
  refine calls_of_wp Tryz.func25 rfl ?_
  exact row_eq (N := 27) rfl (by decide) rfl (by kernel_rfl) w o o' xs.length c c' (by omega) (fun i a W hi h Q q hp => body_eqC (T := cMsg) (eA := 127) (by kernel_rfl) (by decide) (by kernel_rfl) (by kernel_rfl) rfl ⟨by kernel_rfl, by kernel_rfl⟩ ⟨_, Tryz.func42, by kernel_rfl, by kernel_rfl⟩ eqMsg_c rfl hr hr' (fun x hx => by have := sumT_mem cMsg.nn hx; omega) i a W hi h Q q hp)
set_option maxRecDepth 10000 in
set_option maxHeartbeats 2000000 in
theorem eqIntA2_c : EqC Tryz.prog cIntA2 vA 43 := by
  rintro us vs xs w ⟨hu, hx⟩ ⟨hv, _⟩ ht
  obtain rfl : us = vs := hu.trans hv.symm
  have hl : us.length = 2 := by rw [hu, List.length_map, hx]
  refine calls_of_wp Tryz.func43 rfl ?_
  exact arr_eq (n := 2) (us := us) (eA := 3) (by kernel_rfl) rfl rfl (by kernel_rfl) (by kernel_rfl) ⟨by kernel_rfl, by kernel_rfl⟩ hl (fun v hm => by
    rw [hu] at hm
    obtain ⟨x, _, rfl⟩ := List.mem_map.1 hm
    exact neq_int) (by decide) rfl
set_option maxRecDepth 10000 in
set_option maxHeartbeats 2000000 in
theorem eqIntA2S_c : EqC Tryz.prog cIntA2S v1 26 := by
  rintro us vs xs w ⟨o, c, rfl, hl, hr⟩ ⟨o', c', rfl, _, hr'⟩ ht
  have h0 := sumT_nn cIntA2.nn xs
  have h1 : (xs.length : Int) + sumT cIntA2.tot xs ≤ 1048576 := ht
  show Calls _ _ #[.slice o xs.length c, .slice o' xs.length c'] w _
  refine calls_of_wp Tryz.func26 rfl ?_
  exact row_eq (N := 27) rfl (by decide) rfl (by kernel_rfl) w o o' xs.length c c' (by omega) (fun i a W hi h Q q hp => body_eqC (T := cIntA2) (eA := 129) (by kernel_rfl) (by decide) (by kernel_rfl) (by kernel_rfl) rfl ⟨by kernel_rfl, by kernel_rfl⟩ ⟨_, Tryz.func43, by kernel_rfl, by kernel_rfl⟩ eqIntA2_c rfl hr hr' (fun x hx => by have := sumT_mem cIntA2.nn hx; omega) i a W hi h Q q hp)
set_option maxRecDepth 10000 in
set_option maxHeartbeats 2000000 in
theorem eqStringS_c : EqC Tryz.prog cStringS v1 28 := by
  rintro us vs xs w ⟨o, c, rfl, hl, hr⟩ ⟨o', c', rfl, _, hr'⟩ ht
  have h0 := sumT_nn cStr.nn xs
  have h1 : (xs.length : Int) + sumT cStr.tot xs ≤ 1048576 := ht
  show Calls _ _ #[.slice o xs.length c, .slice o' xs.length c'] w _
  refine calls_of_wp Tryz.func28 rfl ?_
  exact row_eq (N := 26) rfl (by decide) rfl (by kernel_rfl) w o o' xs.length c c' (by omega) (fun i a W hi h Q q hp => body_eqS (T := cStr) (eA := 9) (by kernel_rfl) (by decide) (by kernel_rfl) (by kernel_rfl) rfl ⟨by kernel_rfl, by kernel_rfl⟩ (fun h g => ⟨_, h.1, g.1, neq_str⟩) rfl hr hr' i a W hi h Q q hp)
set_option maxRecDepth 10000 in
set_option maxHeartbeats 2000000 in
theorem eqCluster_c : EqC Tryz.prog cCluster vA 8 := by
  intro us vs x w hr hs ht
  obtain ⟨⟨⟨⟨⟨⟨⟨_, x0⟩, x1⟩, x2⟩, x3⟩, x4⟩, x5⟩, x6⟩ := x
  obtain ⟨_, u6, rfl, ⟨_, u5, rfl, ⟨_, u4, rfl, ⟨_, u3, rfl, ⟨_, u2, rfl, ⟨_, u1, rfl, ⟨_, u0, rfl, rfl, h0⟩, h1⟩, h2⟩, h3⟩, h4⟩, h5⟩, h6⟩ := hr
  obtain ⟨_, y6, rfl, ⟨_, y5, rfl, ⟨_, y4, rfl, ⟨_, y3, rfl, ⟨_, y2, rfl, ⟨_, y1, rfl, ⟨_, y0, rfl, rfl, g0⟩, g1⟩, g2⟩, g3⟩, g4⟩, g5⟩, g6⟩ := hs
  replace ht := (tot_two ht).1
  obtain ⟨ht, t5⟩ := tot_two ht
  obtain ⟨ht, t4⟩ := tot_two ht
  obtain ⟨ht, t3⟩ := tot_two ht
  obtain ⟨ht, t2⟩ := tot_two ht
  obtain ⟨ht, t1⟩ := tot_two ht
  obtain ⟨ht, t0⟩ := tot_two ht
  have l0 : u0.length = 1 := cReplicaS.len h0
  have m0 : y0.length = 1 := cReplicaS.len g0
  have l1 : u1.length = 2 := cGroup.len h1
  have m1 : y1.length = 2 := cGroup.len g1
  have l2 : u2.length = 1 := cMsgS.len h2
  have m2 : y2.length = 1 := cMsgS.len g2
  have l3 : u3.length = 1 := cIntA2S.len h3
  have m3 : y3.length = 1 := cIntA2S.len g3
  have l4 : u4.length = 1 := cEntryS.len h4
  have m4 : y4.length = 1 := cEntryS.len g4
  have l5 : u5.length = 1 := cStringS.len h5
  have m5 : y5.length = 1 := cStringS.len g5
  refine calls_of_wp Tryz.func8 rfl ?_
  refine q_head (us := (((((([] ++ u0) ++ u1) ++ u2) ++ u3) ++ u4) ++ u5) ++ u6) (vs := (((((([] ++ y0) ++ y1) ++ y2) ++ y3) ++ y4) ++ y5) ++ y6) (N := 46) rfl rfl rfl (by decide) ?_
  intro a W S
  refine q_call (n := 1) (off := 0) (pre := []) (post := u1 ++ (u2 ++ (u3 ++ (u4 ++ (u5 ++ (u6)))))) (pre' := []) (post' := y1 ++ (y2 ++ (y3 ++ (y4 ++ (y5 ++ (y6)))))) S (by decide) (by kernel_rfl) cReplicaS x0 v1 rfl (Or.inr ⟨rfl, ⟨by kernel_rfl, by kernel_rfl⟩, rfl⟩) ⟨_, Tryz.func23, by kernel_rfl, by kernel_rfl⟩ eqReplicaS_c h0 g0 t0 (by simp only [List.append_assoc, List.nil_append]) rfl (by simp only [List.append_assoc, List.nil_append]) rfl ?_
  intro a W S
  refine q_call (n := 2) (off := 1) (pre := [] ++ u0) (post := u2 ++ (u3 ++ (u4 ++ (u5 ++ (u6))))) (pre' := [] ++ y0) (post' := y2 ++ (y3 ++ (y4 ++ (y5 ++ (y6))))) S (by decide) (by kernel_rfl) cGroup x1 vA rfl (Or.inl ⟨rfl, ⟨by kernel_rfl, by kernel_rfl⟩⟩) ⟨_, Tryz.func24, by kernel_rfl, by kernel_rfl⟩ eqGroup_c h1 g1 t1 (by simp only [List.append_assoc, List.nil_append]) (by simp only [List.length_append, List.length_nil, l0]) (by simp only [List.append_assoc, List.nil_append]) (by simp only [List.length_append, List.length_nil, m0]) ?_
  intro a W S
  refine q_call (n := 1) (off := 3) (pre := ([] ++ u0) ++ u1) (post := u3 ++ (u4 ++ (u5 ++ (u6)))) (pre' := ([] ++ y0) ++ y1) (post' := y3 ++ (y4 ++ (y5 ++ (y6)))) S (by decide) (by kernel_rfl) cMsgS x2 v1 rfl (Or.inr ⟨rfl, ⟨by kernel_rfl, by kernel_rfl⟩, rfl⟩) ⟨_, Tryz.func25, by kernel_rfl, by kernel_rfl⟩ eqMsgS_c h2 g2 t2 (by simp only [List.append_assoc, List.nil_append]) (by simp only [List.length_append, List.length_nil, l0, l1]) (by simp only [List.append_assoc, List.nil_append]) (by simp only [List.length_append, List.length_nil, m0, m1]) ?_
  intro a W S
  refine q_call (n := 1) (off := 4) (pre := (([] ++ u0) ++ u1) ++ u2) (post := u4 ++ (u5 ++ (u6))) (pre' := (([] ++ y0) ++ y1) ++ y2) (post' := y4 ++ (y5 ++ (y6))) S (by decide) (by kernel_rfl) cIntA2S x3 v1 rfl (Or.inr ⟨rfl, ⟨by kernel_rfl, by kernel_rfl⟩, rfl⟩) ⟨_, Tryz.func26, by kernel_rfl, by kernel_rfl⟩ eqIntA2S_c h3 g3 t3 (by simp only [List.append_assoc, List.nil_append]) (by simp only [List.length_append, List.length_nil, l0, l1, l2]) (by simp only [List.append_assoc, List.nil_append]) (by simp only [List.length_append, List.length_nil, m0, m1, m2]) ?_
  intro a W S
  refine q_call (n := 1) (off := 5) (pre := ((([] ++ u0) ++ u1) ++ u2) ++ u3) (post := u5 ++ (u6)) (pre' := ((([] ++ y0) ++ y1) ++ y2) ++ y3) (post' := y5 ++ (y6)) S (by decide) (by kernel_rfl) cEntryS x4 v1 rfl (Or.inr ⟨rfl, ⟨by kernel_rfl, by kernel_rfl⟩, rfl⟩) ⟨_, Tryz.func27, by kernel_rfl, by kernel_rfl⟩ eqEntryS_c h4 g4 t4 (by simp only [List.append_assoc, List.nil_append]) (by simp only [List.length_append, List.length_nil, l0, l1, l2, l3]) (by simp only [List.append_assoc, List.nil_append]) (by simp only [List.length_append, List.length_nil, m0, m1, m2, m3]) ?_
  intro a W S
  refine q_call (n := 1) (off := 6) (pre := (((([] ++ u0) ++ u1) ++ u2) ++ u3) ++ u4) (post := u6) (pre' := (((([] ++ y0) ++ y1) ++ y2) ++ y3) ++ y4) (post' := y6) S (by decide) (by kernel_rfl) cStringS x5 v1 rfl (Or.inr ⟨rfl, ⟨by kernel_rfl, by kernel_rfl⟩, rfl⟩) ⟨_, Tryz.func28, by kernel_rfl, by kernel_rfl⟩ eqStringS_c h5 g5 t5 (by simp only [List.append_assoc, List.nil_append]) (by simp only [List.length_append, List.length_nil, l0, l1, l2, l3, l4]) (by simp only [List.append_assoc, List.nil_append]) (by simp only [List.length_append, List.length_nil, m0, m1, m2, m3, m4]) ?_
  intro a W S
  refine q_cell (off := 7) (pre := ((((([] ++ u0) ++ u1) ++ u2) ++ u3) ++ u4) ++ u5) (post := []) (pre' := ((((([] ++ y0) ++ y1) ++ y2) ++ y3) ++ y4) ++ y5) (post' := []) S (by decide) (by kernel_rfl) ⟨by kernel_rfl, by kernel_rfl⟩ (.bool x6) h6 g6 (by simp only [List.append_assoc, List.nil_append, List.append_nil]) (by simp only [List.length_append, List.length_nil, l0, l1, l2, l3, l4, l5]) (by simp only [List.append_assoc, List.nil_append, List.append_nil]) (by simp only [List.length_append, List.length_nil, m0, m1, m2, m3, m4, m5]) (neq_bool (by kernel_rfl)) ?_
  intro a S
  exact q_tail S (by decide) rfl (fun hb => ⟨rfl, hb⟩)

end Go.Proofs.YtjiplphfpkhmpaaGreat
