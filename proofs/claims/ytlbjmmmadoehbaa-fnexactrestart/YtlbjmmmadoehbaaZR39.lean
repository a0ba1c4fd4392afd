/-
  The laws' looks at all that a cluster holds.
-/
import Derived.Test.YtlbjmmmadoehbaaZR10
namespace Go.Proofs.Ytlbjmmmadoehbaa
open Go.ChangeShapes Go.WideShapes Go.RowKit

set_option maxRecDepth 10000 in
set_option maxHeartbeats 2000000 in
theorem eqIntS_c : EqC Try.prog cIntS v1 25 := by
  rintro us vs xs w ⟨o, c, rfl, hl, hr⟩ ⟨o', c', rfl, _, hr'⟩ ht
  have h0 := sumT_nn cInt.nn xs
  have h1 : (xs.length : Int) + sumT cInt.tot xs ≤ 1048576 := ht
  show Calls _ _ #[.slice o xs.length c, .slice o' xs.length c'] w _
  refine calls_of_wp Try.func25 rfl ?_
  exact row_eq (N := 26) rfl (by decide) rfl (by kernel_rfl) w o o' xs.length c c' (by omega) (fun i a W hi h Q q hp => body_eqS (T := cInt) (eA := 3) (by kernel_rfl) (by decide) (by kernel_rfl) (by kernel_rfl) rfl ⟨by kernel_rfl, by kernel_rfl⟩ (fun h g => ⟨_, h, g, neq_int⟩) rfl hr hr' i a W hi h Q q hp)
set_option maxRecDepth 10000 in
set_option maxHeartbeats 2000000 in
theorem eqGroup_c : EqC Try.prog cGroup vA 27 := by
  intro us vs x w hr hs ht
  obtain ⟨⟨_, x0⟩, x1⟩ := x
  obtain ⟨_, u1, rfl, ⟨_, u0, rfl, rfl, h0⟩, h1⟩ := hr
  obtain ⟨_, y1, rfl, ⟨_, y0, rfl, rfl, g0⟩, g1⟩ := hs
  obtain ⟨ht, t1⟩ := tot_two ht
  obtain ⟨ht, t0⟩ := tot_two ht
  have l0 : u0.length = 1 := cIntS.len h0
  have m0 : y0.length = 1 := cIntS.len g0
  refine calls_of_wp Try.func27 rfl ?_
  refine q_head (us := ([] ++ u0) ++ u1) (vs := ([] ++ y0) ++ y1) (N := 17) rfl rfl rfl (by decide) ?_
  intro a W S
  refine q_call (n := 1) (off := 0) (pre := []) (post := u1) (pre' := []) (post' := y1) S (by decide) (by kernel_rfl) cIntS x0 v1 rfl (Or.inr ⟨rfl, ⟨by kernel_rfl, by kernel_rfl⟩, rfl⟩) ⟨_, Try.func25, by kernel_rfl, by kernel_rfl⟩ eqIntS_c h0 g0 t0 (by simp only [List.nil_append]) rfl (by simp only [List.nil_append]) rfl ?_
  intro a W S
  refine q_call (n := 1) (off := 1) (pre := [] ++ u0) (post := []) (pre' := [] ++ y0) (post' := []) S (by decide) (by kernel_rfl) cIntS x1 v1 rfl (Or.inr ⟨rfl, ⟨by kernel_rfl, by kernel_rfl⟩, rfl⟩) ⟨_, Try.func25, by kernel_rfl, by kernel_rfl⟩ eqIntS_c h1 g1 t1 (by simp only [List.nil_append, List.append_nil]) (by simp only [List.length_append, List.length_nil, l0]) (by simp only [List.nil_append, List.append_nil]) (by simp only [List.length_append, List.length_nil, m0]) ?_
  intro a W S
  exact q_tail S (by decide) rfl (fun hb => ⟨rfl, hb⟩)
set_option maxRecDepth 10000 in
set_option maxHeartbeats 2000000 in
theorem eqByteS_c : EqC Try.prog cByteS v1 28 := by
  rintro us vs xs w ⟨o, c, rfl, hl, hr⟩ ⟨o', c', rfl, _, hr'⟩ ht
  have h0 := sumT_nn cByte.nn xs
  have h1 : (xs.length : Int) + sumT cByte.tot xs ≤ 1048576 := ht
  show Calls _ _ #[.slice o xs.length c, .slice o' xs.length c'] w _
  refine calls_of_wp Try.func28 rfl ?_
  exact row_eq (N := 26) rfl (by decide) rfl (by kernel_rfl) w o o' xs.length c c' (by omega) (fun i a W hi h Q q hp => body_eqS (T := cByte) (eA := 5) (by kernel_rfl) (by decide) (by kernel_rfl) (by kernel_rfl) rfl ⟨by kernel_rfl, by kernel_rfl⟩ (fun h g => ⟨_, h.1, g.1, neq_int⟩) rfl hr hr' i a W hi h Q q hp)
set_option maxRecDepth 10000 in
set_option maxHeartbeats 2000000 in
theorem eqEntry_c : EqC Try.prog cEntry vA 51 := by
  intro us vs x w hr hs ht
  obtain ⟨⟨⟨_, x0⟩, x1⟩, x2⟩ := x
  obtain ⟨_, u2, rfl, ⟨_, u1, rfl, ⟨_, u0, rfl, rfl, h0⟩, h1⟩, h2⟩ := hr
  obtain ⟨_, y2, rfl, ⟨_, y1, rfl, ⟨_, y0, rfl, rfl, g0⟩, g1⟩, g2⟩ := hs
  obtain ⟨ht, t2⟩ := tot_two ht
  replace ht := (tot_two ht).1
  replace ht := (tot_two ht).1
  have l0 : u0.length = 1 := cInt.len h0
  have m0 : y0.length = 1 := cInt.len g0
  have l1 : u1.length = 1 := cInt.len h1
  have m1 : y1.length = 1 := cInt.len g1
  refine calls_of_wp Try.func51 rfl ?_
  refine q_head (us := (([] ++ u0) ++ u1) ++ u2) (vs := (([] ++ y0) ++ y1) ++ y2) (N := 21) rfl rfl rfl (by decide) ?_
  intro a W S
  refine q_cell (off := 0) (pre := []) (post := u1 ++ (u2)) (pre' := []) (post' := y1 ++ (y2)) S (by decide) (by kernel_rfl) ⟨by kernel_rfl, by kernel_rfl⟩ (.int .i64 x0) h0 g0 (by simp only [List.append_assoc, List.nil_append]) rfl (by simp only [List.append_assoc, List.nil_append]) rfl neq_int ?_
  intro a S
  refine q_cell (off := 1) (pre := [] ++ u0) (post := u2) (pre' := [] ++ y0) (post' := y2) S (by decide) (by kernel_rfl) ⟨by kernel_rfl, by kernel_rfl⟩ (.int .i64 x1) h1 g1 (by simp only [List.append_assoc, List.nil_append]) (by simp only [List.length_append, List.length_nil, l0]) (by simp only [List.append_assoc, List.nil_append]) (by simp only [List.length_append, List.length_nil, m0]) neq_int ?_
  intro a S
  refine q_call (n := 1) (off := 2) (pre := ([] ++ u0) ++ u1) (post := []) (pre' := ([] ++ y0) ++ y1) (post' := []) S (by decide) (by kernel_rfl) cByteS x2 v1 rfl (Or.inr ⟨rfl, ⟨by kernel_rfl, by kernel_rfl⟩, rfl⟩) ⟨_, Try.func28, by kernel_rfl, by kernel_rfl⟩ eqByteS_c h2 g2 t2 (by simp only [List.append_assoc, List.nil_append, List.append_nil]) (by simp only [List.length_append, List.length_nil, l0, l1]) (by simp only [List.append_assoc, List.nil_append, List.append_nil]) (by simp only [List.length_append, List.length_nil, m0, m1]) ?_
  intro a W S
  exact q_tail S (by decide) rfl (fun hb => ⟨rfl, hb⟩)
set_option maxRecDepth 10000 in
set_option maxHeartbeats 2000000 in
theorem eqEntryS_c : EqC Try.prog cEntryS v1 29 := by
  rintro us vs xs w ⟨o, c, rfl, hl, hr⟩ ⟨o', c', rfl, _, hr'⟩ ht
  have h0 := sumT_nn cEntry.nn xs
  have h1 : (xs.length : Int) + sumT cEntry.tot xs ≤ 1048576 := ht
  show Calls _ _ #[.slice o xs.length c, .slice o' xs.length c'] w _
  refine calls_of_wp Try.func29 rfl ?_
  exact row_eq (N := 27) rfl (by decide) rfl (by kernel_rfl) w o o' xs.length c c' (by omega) (fun i a W hi h Q q hp => body_eqC (T := cEntry) (eA := 67) (by kernel_rfl) (by decide) (by kernel_rfl) (by kernel_rfl) rfl ⟨by kernel_rfl, by kernel_rfl⟩ ⟨_, Try.func51, by kernel_rfl, by kernel_rfl⟩ eqEntry_c rfl hr hr' (fun x hx => by have := sumT_mem cEntry.nn hx; omega) i a W hi h Q q hp)
set_option maxRecDepth 10000 in
set_option maxHeartbeats 2000000 in
theorem eqKeep_c : EqC Try.prog cKeep vA 9 := by
  intro us vs x w hr hs ht
  obtain ⟨⟨⟨⟨⟨⟨⟨_, x0⟩, x1⟩, x2⟩, x3⟩, x4⟩, x5⟩, x6⟩ := x
  obtain ⟨_, u6, rfl, ⟨_, u5, rfl, ⟨_, u4, rfl, ⟨_, u3, rfl, ⟨_, u2, rfl, ⟨_, u1, rfl, ⟨_, u0, rfl, rfl, h0⟩, h1⟩, h2⟩, h3⟩, h4⟩, h5⟩, h6⟩ := hr
  obtain ⟨_, y6, rfl, ⟨_, y5, rfl, ⟨_, y4, rfl, ⟨_, y3, rfl, ⟨_, y2, rfl, ⟨_, y1, rfl, ⟨_, y0, rfl, rfl, g0⟩, g1⟩, g2⟩, g3⟩, g4⟩, g5⟩, g6⟩ := hs
  obtain ⟨ht, t6⟩ := tot_two ht
  obtain ⟨ht, t5⟩ := tot_two ht
  obtain ⟨ht, t4⟩ := tot_two ht
  replace ht := (tot_two ht).1
  replace ht := (tot_two ht).1
  replace ht := (tot_two ht).1
  replace ht := (tot_two ht).1
  have l0 : u0.length = 1 := cInt.len h0
  have m0 : y0.length = 1 := cInt.len g0
  have l1 : u1.length = 1 := cInt.len h1
  have m1 : y1.length = 1 := cInt.len g1
  have l2 : u2.length = 1 := cInt.len h2
  have m2 : y2.length = 1 := cInt.len g2
  have l3 : u3.length = 1 := cInt.len h3
  have m3 : y3.length = 1 := cInt.len g3
  have l4 : u4.length = 2 := cGroup.len h4
  have m4 : y4.length = 2 := cGroup.len g4
  have l5 : u5.length = 1 := cByteS.len h5
  have m5 : y5.length = 1 := cByteS.len g5
  refine calls_of_wp Try.func9 rfl ?_
  refine q_head (us := (((((([] ++ u0) ++ u1) ++ u2) ++ u3) ++ u4) ++ u5) ++ u6) (vs := (((((([] ++ y0) ++ y1) ++ y2) ++ y3) ++ y4) ++ y5) ++ y6) (N := 43) rfl rfl rfl (by decide) ?_
  intro a W S
  refine q_cell (off := 0) (pre := []) (post := u1 ++ (u2 ++ (u3 ++ (u4 ++ (u5 ++ (u6)))))) (pre' := []) (post' := y1 ++ (y2 ++ (y3 ++ (y4 ++ (y5 ++ (y6)))))) S (by decide) (by kernel_rfl) ⟨by kernel_rfl, by kernel_rfl⟩ (.int .i64 x0) h0 g0 (by simp only [List.append_assoc, List.nil_append]) rfl (by simp only [List.append_assoc, List.nil_append]) rfl neq_int ?_
  intro a S
  refine q_cell (off := 1) (pre := [] ++ u0) (post := u2 ++ (u3 ++ (u4 ++ (u5 ++ (u6))))) (pre' := [] ++ y0) (post' := y2 ++ (y3 ++ (y4 ++ (y5 ++ (y6))))) S (by decide) (by kernel_rfl) ⟨by kernel_rfl, by kernel_rfl⟩ (.int .i64 x1) h1 g1 (by simp only [List.append_assoc, List.nil_append]) (by simp only [List.length_append, List.length_nil, l0]) (by simp only [List.append_assoc, List.nil_append]) (by simp only [List.length_append, List.length_nil, m0]) neq_int ?_
  intro a S
  refine q_cell (off := 2) (pre := ([] ++ u0) ++ u1) (post := u3 ++ (u4 ++ (u5 ++ (u6)))) (pre' := ([] ++ y0) ++ y1) (post' := y3 ++ (y4 ++ (y5 ++ (y6)))) S (by decide) (by kernel_rfl) ⟨by kernel_rfl, by kernel_rfl⟩ (.int .i64 x2) h2 g2 (by simp only [List.append_assoc, List.nil_append]) (by simp only [List.length_append, List.length_nil, l0, l1]) (by simp only [List.append_assoc, List.nil_append]) (by simp only [List.length_append, List.length_nil, m0, m1]) neq_int ?_
  intro a S
  refine q_cell (off := 3) (pre := (([] ++ u0) ++ u1) ++ u2) (post := u4 ++ (u5 ++ (u6))) (pre' := (([] ++ y0) ++ y1) ++ y2) (post' := y4 ++ (y5 ++ (y6))) S (by decide) (by kernel_rfl) ⟨by kernel_rfl, by kernel_rfl⟩ (.int .i64 x3) h3 g3 (by simp only [List.append_assoc, List.nil_append]) (by simp only [List.length_append, List.length_nil, l0, l1, l2]) (by simp only [List.append_assoc, List.nil_append]) (by simp only [List.length_append, List.length_nil, m0, m1, m2]) neq_int ?_
  intro a S
  refine q_call (n := 2) (off := 4) (pre := ((([] ++ u0) ++ u1) ++ u2) ++ u3) (post := u5 ++ (u6)) (pre' := ((([] ++ y0) ++ y1) ++ y2) ++ y3) (post' := y5 ++ (y6)) S (by decide) (by kernel_rfl) cGroup x4 vA rfl (Or.inl ⟨rfl, ⟨by kernel_rfl, by kernel_rfl⟩⟩) ⟨_, Try.func27, by kernel_rfl, by kernel_rfl⟩ eqGroup_c h4 g4 t4 (by simp only [List.append_assoc, List.nil_append]) (by simp only [List.length_append, List.length_nil, l0, l1, l2, l3]) (by simp only [List.append_assoc, List.nil_append]) (by simp only [List.length_append, List.length_nil, m0, m1, m2, m3]) ?_
  intro a W S
  refine q_call (n := 1) (off := 6) (pre := (((([] ++ u0) ++ u1) ++ u2) ++ u3) ++ u4) (post := u6) (pre' := (((([] ++ y0) ++ y1) ++ y2) ++ y3) ++ y4) (post' := y6) S (by decide) (by kernel_rfl) cByteS x5 v1 rfl (Or.inr ⟨rfl, ⟨by kernel_rfl, by kernel_rfl⟩, rfl⟩) ⟨_, Try.func28, by kernel_rfl, by kernel_rfl⟩ eqByteS_c h5 g5 t5 (by simp only [List.append_assoc, List.nil_append]) (by simp only [List.length_append, List.length_nil, l0, l1, l2, l3, l4]) (by simp only [List.append_assoc, List.nil_append]) (by simp only [List.length_append, List.length_nil, m0, m1, m2, m3, m4]) ?_
  intro a W S
  refine q_call (n := 1) (off := 7) (pre := ((((([] ++ u0) ++ u1) ++ u2) ++ u3) ++ u4) ++ u5) (post := []) (pre' := ((((([] ++ y0) ++ y1) ++ y2) ++ y3) ++ y4) ++ y5) (post' := []) S (by decide) (by kernel_rfl) cEntryS x6 v1 rfl (Or.inr ⟨rfl, ⟨by kernel_rfl, by kernel_rfl⟩, rfl⟩) ⟨_, Try.func29, by kernel_rfl, by kernel_rfl⟩ eqEntryS_c h6 g6 t6 (by simp only [List.append_assoc, List.nil_append, List.append_nil]) (by simp only [List.length_append, List.length_nil, l0, l1, l2, l3, l4, l5]) (by simp only [List.append_assoc, List.nil_append, List.append_nil]) (by simp only [List.length_append, List.length_nil, m0, m1, m2, m3, m4, m5]) ?_
  intro a W S
  exact q_tail S (by decide) rfl (fun hb => ⟨rfl, hb⟩)
set_option maxRecDepth 10000 in
set_option maxHeartbeats 2000000 in
theorem eqIntA8_c : EqC Try.prog cIntA8 vA 26 := by
  rintro us vs xs w ⟨hu, hx⟩ ⟨hv, _⟩ ht
  obtain rfl : us = vs := hu.trans hv.symm
  have hl : us.length = 8 := by rw [hu, List.length_map, hx]
  refine calls_of_wp Try.func26 rfl ?_
  exact arr_eq (n := 8) (us := us) (eA := 3) (by kernel_rfl) rfl rfl (by kernel_rfl) (by kernel_rfl) ⟨by kernel_rfl, by kernel_rfl⟩ hl (fun v hm => by
    rw [hu] at hm
    obtain ⟨x, _, rfl⟩ := List.mem_map.1 hm
    exact neq_int) (by decide) rfl
set_option maxRecDepth 10000 in
set_option maxHeartbeats 2000000 in
theorem eqServer_c : EqC Try.prog cServer vA 8 := by
  intro us vs x w hr hs ht
  obtain ⟨⟨⟨⟨⟨⟨⟨⟨⟨⟨_, x0⟩, x1⟩, x2⟩, x3⟩, x4⟩, x5⟩, x6⟩, x7⟩, x8⟩, x9⟩ := x
  obtain ⟨_, u9, rfl, ⟨_, u8, rfl, ⟨_, u7, rfl, ⟨_, u6, rfl, ⟨_, u5, rfl, ⟨_, u4, rfl, ⟨_, u3, rfl, ⟨_, u2, rfl, ⟨_, u1, rfl, ⟨_, u0, rfl, rfl, h0⟩, h1⟩, h2⟩, h3⟩, h4⟩, h5⟩, h6⟩, h7⟩, h8⟩, h9⟩ := hr
  obtain ⟨_, y9, rfl, ⟨_, y8, rfl, ⟨_, y7, rfl, ⟨_, y6, rfl, ⟨_, y5, rfl, ⟨_, y4, rfl, ⟨_, y3, rfl, ⟨_, y2, rfl, ⟨_, y1, rfl, ⟨_, y0, rfl, rfl, g0⟩, g1⟩, g2⟩, g3⟩, g4⟩, g5⟩, g6⟩, g7⟩, g8⟩, g9⟩ := hs
  replace ht := (tot_two ht).1
  replace ht := (tot_two ht).1
  obtain ⟨ht, t7⟩ := tot_two ht
  obtain ⟨ht, t6⟩ := tot_two ht
  obtain ⟨ht, t5⟩ := tot_two ht
  replace ht := (tot_two ht).1
  replace ht := (tot_two ht).1
  replace ht := (tot_two ht).1
  obtain ⟨ht, t1⟩ := tot_two ht
  replace ht := (tot_two ht).1
  have l0 : u0.length = 1 := cInt.len h0
  have m0 : y0.length = 1 := cInt.len g0
  have l1 : u1.length = 8 := cKeep.len h1
  have m1 : y1.length = 8 := cKeep.len g1
  have l2 : u2.length = 1 := cInt.len h2
  have m2 : y2.length = 1 := cInt.len g2
  have l3 : u3.length = 1 := cInt.len h3
  have m3 : y3.length = 1 := cInt.len g3
  have l4 : u4.length = 1 := cInt.len h4
  have m4 : y4.length = 1 := cInt.len g4
  have l5 : u5.length = 1 := cIntS.len h5
  have m5 : y5.length = 1 := cIntS.len g5
  have l6 : u6.length = 8 := cIntA8.len h6
  have m6 : y6.length = 8 := cIntA8.len g6
  have l7 : u7.length = 8 := cIntA8.len h7
  have m7 : y7.length = 8 := cIntA8.len g7
  have l8 : u8.length = 1 := cInt.len h8
  have m8 : y8.length = 1 := cInt.len g8
  refine calls_of_wp Try.func8 rfl ?_
  refine q_head (us := ((((((((([] ++ u0) ++ u1) ++ u2) ++ u3) ++ u4) ++ u5) ++ u6) ++ u7) ++ u8) ++ u9) (vs := ((((((((([] ++ y0) ++ y1) ++ y2) ++ y3) ++ y4) ++ y5) ++ y6) ++ y7) ++ y8) ++ y9) (N := 59) rfl rfl rfl (by decide) ?_
  intro a W S
  refine q_cell (off := 0) (pre := []) (post := u1 ++ (u2 ++ (u3 ++ (u4 ++ (u5 ++ (u6 ++ (u7 ++ (u8 ++ (u9))))))))) (pre' := []) (post' := y1 ++ (y2 ++ (y3 ++ (y4 ++ (y5 ++ (y6 ++ (y7 ++ (y8 ++ (y9))))))))) S (by decide) (by kernel_rfl) ⟨by kernel_rfl, by kernel_rfl⟩ (.int .i64 x0) h0 g0 (by simp only [List.append_assoc, List.nil_append]) rfl (by simp only [List.append_assoc, List.nil_append]) rfl neq_int ?_
  intro a S
  refine q_call (n := 8) (off := 1) (pre := [] ++ u0) (post := u2 ++ (u3 ++ (u4 ++ (u5 ++ (u6 ++ (u7 ++ (u8 ++ (u9)))))))) (pre' := [] ++ y0) (post' := y2 ++ (y3 ++ (y4 ++ (y5 ++ (y6 ++ (y7 ++ (y8 ++ (y9)))))))) S (by decide) (by kernel_rfl) cKeep x1 vA rfl (Or.inl ⟨rfl, ⟨by kernel_rfl, by kernel_rfl⟩⟩) ⟨_, Try.func9, by kernel_rfl, by kernel_rfl⟩ eqKeep_c h1 g1 t1 (by simp only [List.append_assoc, List.nil_append]) (by simp only [List.length_append, List.length_nil, l0]) (by simp only [List.append_assoc, List.nil_append]) (by simp only [List.length_append, List.length_nil, m0]) ?_
  intro a W S
  refine q_cell (off := 9) (pre := ([] ++ u0) ++ u1) (post := u3 ++ (u4 ++ (u5 ++ (u6 ++ (u7 ++ (u8 ++ (u9))))))) (pre' := ([] ++ y0) ++ y1) (post' := y3 ++ (y4 ++ (y5 ++ (y6 ++ (y7 ++ (y8 ++ (y9))))))) S (by decide) (by kernel_rfl) ⟨by kernel_rfl, by kernel_rfl⟩ (.int .i64 x2) h2 g2 (by simp only [List.append_assoc, List.nil_append]) (by simp only [List.length_append, List.length_nil, l0, l1]) (by simp only [List.append_assoc, List.nil_append]) (by simp only [List.length_append, List.length_nil, m0, m1]) neq_int ?_
  intro a S
  refine q_cell (off := 10) (pre := (([] ++ u0) ++ u1) ++ u2) (post := u4 ++ (u5 ++ (u6 ++ (u7 ++ (u8 ++ (u9)))))) (pre' := (([] ++ y0) ++ y1) ++ y2) (post' := y4 ++ (y5 ++ (y6 ++ (y7 ++ (y8 ++ (y9)))))) S (by decide) (by kernel_rfl) ⟨by kernel_rfl, by kernel_rfl⟩ (.int .i64 x3) h3 g3 (by simp only [List.append_assoc, List.nil_append]) (by simp only [List.length_append, List.length_nil, l0, l1, l2]) (by simp only [List.append_assoc, List.nil_append]) (by simp only [List.length_append, List.length_nil, m0, m1, m2]) neq_int ?_
  intro a S
  refine q_cell (off := 11) (pre := ((([] ++ u0) ++ u1) ++ u2) ++ u3) (post := u5 ++ (u6 ++ (u7 ++ (u8 ++ (u9))))) (pre' := ((([] ++ y0) ++ y1) ++ y2) ++ y3) (post' := y5 ++ (y6 ++ (y7 ++ (y8 ++ (y9))))) S (by decide) (by kernel_rfl) ⟨by kernel_rfl, by kernel_rfl⟩ (.int .i64 x4) h4 g4 (by simp only [List.append_assoc, List.nil_append]) (by simp only [List.length_append, List.length_nil, l0, l1, l2, l3]) (by simp only [List.append_assoc, List.nil_append]) (by simp only [List.length_append, List.length_nil, m0, m1, m2, m3]) neq_int ?_
  intro a S
  refine q_call (n := 1) (off := 12) (pre := (((([] ++ u0) ++ u1) ++ u2) ++ u3) ++ u4) (post := u6 ++ (u7 ++ (u8 ++ (u9)))) (pre' := (((([] ++ y0) ++ y1) ++ y2) ++ y3) ++ y4) (post' := y6 ++ (y7 ++ (y8 ++ (y9)))) S (by decide) (by kernel_rfl) cIntS x5 v1 rfl (Or.inr ⟨rfl, ⟨by kernel_rfl, by kernel_rfl⟩, rfl⟩) ⟨_, Try.func25, by kernel_rfl, by kernel_rfl⟩ eqIntS_c h5 g5 t5 (by simp only [List.append_assoc, List.nil_append]) (by simp only [List.length_append, List.length_nil, l0, l1, l2, l3, l4]) (by simp only [List.append_assoc, List.nil_append]) (by simp only [List.length_append, List.length_nil, m0, m1, m2, m3, m4]) ?_
  intro a W S
  refine q_call (n := 8) (off := 13) (pre := ((((([] ++ u0) ++ u1) ++ u2) ++ u3) ++ u4) ++ u5) (post := u7 ++ (u8 ++ (u9))) (pre' := ((((([] ++ y0) ++ y1) ++ y2) ++ y3) ++ y4) ++ y5) (post' := y7 ++ (y8 ++ (y9))) S (by decide) (by kernel_rfl) cIntA8 x6 vA rfl (Or.inl ⟨rfl, ⟨by kernel_rfl, by kernel_rfl⟩⟩) ⟨_, Try.func26, by kernel_rfl, by kernel_rfl⟩ eqIntA8_c h6 g6 t6 (by simp only [List.append_assoc, List.nil_append]) (by simp only [List.length_append, List.length_nil, l0, l1, l2, l3, l4, l5]) (by simp only [List.append_assoc, List.nil_append]) (by simp only [List.length_append, List.length_nil, m0, m1, m2, m3, m4, m5]) ?_
  intro a W S
  refine q_call (n := 8) (off := 21) (pre := (((((([] ++ u0) ++ u1) ++ u2) ++ u3) ++ u4) ++ u5) ++ u6) (post := u8 ++ (u9)) (pre' := (((((([] ++ y0) ++ y1) ++ y2) ++ y3) ++ y4) ++ y5) ++ y6) (post' := y8 ++ (y9)) S (by decide) (by kernel_rfl) cIntA8 x7 vA rfl (Or.inl ⟨rfl, ⟨by kernel_rfl, by kernel_rfl⟩⟩) ⟨_, Try.func26, by kernel_rfl, by kernel_rfl⟩ eqIntA8_c h7 g7 t7 (by simp only [List.append_assoc, List.nil_append]) (by simp only [List.length_append, List.length_nil, l0, l1, l2, l3, l4, l5, l6]) (by simp only [List.append_assoc, List.nil_append]) (by simp only [List.length_append, List.length_nil, m0, m1, m2, m3, m4, m5, m6]) ?_
  intro a W S
  refine q_cell (off := 29) (pre := ((((((([] ++ u0) ++ u1) ++ u2) ++ u3) ++ u4) ++ u5) ++ u6) ++ u7) (post := u9) (pre' := ((((((([] ++ y0) ++ y1) ++ y2) ++ y3) ++ y4) ++ y5) ++ y6) ++ y7) (post' := y9) S (by decide) (by kernel_rfl) ⟨by kernel_rfl, by kernel_rfl⟩ (.int .i64 x8) h8 g8 (by simp only [List.append_assoc, List.nil_append]) (by simp only [List.length_append, List.length_nil, l0, l1, l2, l3, l4, l5, l6, l7]) (by simp only [List.append_assoc, List.nil_append]) (by simp only [List.length_append, List.length_nil, m0, m1, m2, m3, m4, m5, m6, m7]) neq_int ?_
  intro a S
  refine q_cell (off := 30) (pre := (((((((([] ++ u0) ++ u1) ++ u2) ++ u3) ++ u4) ++ u5) ++ u6) ++ u7) ++ u8) (post := []) (pre' := (((((((([] ++ y0) ++ y1) ++ y2) ++ y3) ++ y4) ++ y5) ++ y6) ++ y7) ++ y8) (post' := []) S (by decide) (by kernel_rfl) ⟨by kernel_rfl, by kernel_rfl⟩ (.int .i64 x9) h9 g9 (by simp only [List.append_assoc, List.nil_append, List.append_nil]) (by simp only [List.length_append, List.length_nil, l0, l1, l2, l3, l4, l5, l6, l7, l8]) (by simp only [List.append_assoc, List.nil_append, List.append_nil]) (by simp only [List.length_append, List.length_nil, m0, m1, m2, m3, m4, m5, m6, m7, m8]) neq_int ?_
  intro a S
  exact q_tail S (by decide) rfl (fun hb => ⟨rfl, hb⟩)
end Go.Proofs.Ytlbjmmmadoehbaa
