/-
  The program's Unframe, by the plain reading.
-/
import Derived.Test.YtdcbmeiopfdkeaaCFrI
import Derived.Test.YtdcbmeiopfdkeaaCAtB
namespace Go.Proofs.Ytdcbmeiopfdkeaa
open Go.RowKit

/-- An answer of Unframe, in a row of its own. -/
def UfR (u : Uf) (w : World) (e : Ending) (w' : World) : Prop := ∃ g c, e = .returned (.tuple #[.slice (some ⟨g, 0, none⟩) u.ys.length c, .int .i64 u.nx, .int .i64 u.cd]) ∧ Own w' w.heap.size (.slice (some ⟨g, 0, none⟩) u.ys.length c) u.ys ∧ Below w.heap.size w w'
theorem ufr_nil (w : World) (X : World) (hb : Below w.heap.size w X) (nx cd : Int) (e : Ending) (h : e = .returned (.tuple #[.slice (some ⟨X.heap.size, 0, none⟩) 0 0, .int .i64 nx, .int .i64 cd])) : UfR ⟨[], nx, cd⟩ w e (X.alloc (.cells #[] 5)) :=
  ⟨X.heap.size, 0, h, World.ownsRow_lit X #[] 0 hb.size (by unfold maxLen; omega) (by simp), hb.alloc hb.size _⟩

set_option maxHeartbeats 4000000 in
theorem iUnframe_all (a : Option Addr) (cap : Nat) (zs : List Int) (at' : Int) (w : World) (hB : Byt w a zs) (ho : Oct zs) (hnc : zs.length ≤ cap) (hcap : zs.length ≤ 1000000000000 ∧ cap ≤ 9223372036854775807) (hl : zs.length ≤ 9000000) :
    Calls Try.prog 15 #[.slice a zs.length cap, .int .i64 at'] w fun e w' => UfR (uf zs at') w e w' := by
  have HB := hid' hB
  have HO := hid' ho
  clear hB ho
  obtain ⟨n, hn⟩ : ∃ n, n = zs.length := ⟨_, rfl⟩
  have HN := hid' hn
  by_cases hend : at' = (zs.length : Int)
  · subst hend
    have HV := hid' (@uf_end zs)
    rw [← hn] at *
    clear hn
    go_enter Try.func15, Try.ntmps15
    go_wp2_with fail
    refine bodyPost_ret (v := .tuple #[.slice (some ⟨w.heap.size, 0, none⟩) 0 0, .int .i64 n, .int .i64 1]) (by simp [results, Try.results15, go_sem]) rfl ?_
    rw [HV.out]
    exact ufr_nil w w (Below.refl _ _) _ _ _ rfl
  · have hne : (at' == (n : Int)) = false := by rw [beq_eq_false_iff_ne, hn]; exact hend
    by_cases hout : at' < 0 ∨ (zs.length : Int) < at'
    · have HV := hid' (uf_out (zs := zs) (a := at') (by omega))
      rw [← hn] at *
      have HOut := hid' hout
      clear hn hout hend
      go_enter Try.func15, Try.ntmps15
      go_wp2_with fail
      refine (readAtB_out a n cap at' _ w HOut.out).mono ?_
      rintro e w1 ⟨rfl, hb⟩
      have HB1 := hid' hb
      clear hb
      go_wp2_with fail
      refine bodyPost_ret (v := .tuple #[.slice (some ⟨w1.heap.size, 0, none⟩) 0 0, .int .i64 at', .int .i64 3]) (by simp [results, Try.results15, go_sem]) rfl ?_
      rw [HV.out]
      exact ufr_nil w w1 HB1.out _ _ _ rfl
    · obtain ⟨k, rfl⟩ := Int.eq_ofNat_of_zero_le (show 0 ≤ at' by omega)
      have hk : k < zs.length := by omega
      have HV := hid' (uf_in hk)
      have hr := readAtB_in (fun v j W => ∃ ys g c, v = .slice (some ⟨g, 0, none⟩) ys.length c ∧ ufIn zs k = ⟨ys, (j : Int), 0⟩ ∧ Own W (w.heap.size + 1 + 1) v ys) (fun f => f ≠ 0 ∧ ufIn zs k = ⟨[], k, f⟩) a zs.length cap k zs w HB.out rfl hnc hcap (by omega)
        (fun v j W x h => by obtain ⟨ys, g, c, h1, h2, h3⟩ := h; exact ⟨ys, g, c, h1, h2, ownsRow_setCell_below h3 (by show w.heap.size < _; omega) _⟩)
        (fun v j W h => h)
        (fun wr hr => (frame_any _ a _ cap k zs wr hr HO.out (by omega)).mono (by
          rintro e w' ⟨⟨ys, j, g, c, hv, rfl, hown, hrd⟩ | ⟨f, hv, hf, rfl⟩, hgr⟩
          · exact ⟨Or.inl ⟨_, j, rfl, hrd, ys, g, c, rfl, hv, hown⟩, hgr⟩
          · exact ⟨Or.inr ⟨f, rfl, hf, hv⟩, hgr⟩))
      rw [← hn] at *
      have HRd := hid' hr
      clear hn hout hend hr
      go_enter Try.func15, Try.ntmps15
      go_wp2_with fail
      refine HRd.out.mono ?_
      rintro e w1 ⟨⟨v, j, rfl, ys, g, c, rfl, hv, hown⟩ | ⟨f, rfl, hf, hv⟩, hb⟩
      · have HV2 := hid' hv
        have HOw := hid' (hown.mono (B' := w.heap.size) (by omega))
        have HB1 := hid' hb
        clear hv hown hb
        go_wp2_with fail
        refine bodyPost_ret (v := .tuple #[.slice (some ⟨g, 0, none⟩) ys.length c, .int .i64 (j : Int), .int .i64 0]) (by simp [results, Try.results15, go_sem]) rfl ?_
        rw [HV.out, HV2.out]
        exact ⟨g, c, rfl, HOw.out, HB1.out⟩
      · have HV2 := hid' hv
        have hf0 : (f != 0) = true := by rw [bne_iff_ne]; exact hf
        have HB1 := hid' hb
        clear hv hf hb
        go_wp2_with fail
        refine bodyPost_ret (v := .tuple #[.slice (some ⟨w1.heap.size, 0, none⟩) 0 0, .int .i64 (k : Int), .int .i64 f]) (by simp [results, Try.results15, go_sem]) rfl ?_
        rw [HV.out, HV2.out]
        exact ufr_nil w w1 HB1.out _ _ _ rfl

end Go.Proofs.Ytdcbmeiopfdkeaa
