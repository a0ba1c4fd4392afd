/-
  The program's reading of numbers at base 16, by its plain twin; nothing old in memory turns.
-/
import Derived.Test.YtadhapggcifldaaGreatDoorDReadL
namespace Go.Proofs.YtadhapggcifldaaGreatDoor
open Go.RowKit

set_option maxHeartbeats 4000000 in
theorem readB (s : ByteArray) (w : World) :
    Calls Tryz.prog 63 #[.string s, .int .i32 58, .int .i64 16, .int .i64 65535] w fun e w' => ((∃ (a0 a1 a2 a3 a4 a5 a6 a7 : Int) (n : Nat), e = .returned (.tuple #[.agg #[.int .i64 a0, .int .i64 a1, .int .i64 a2, .int .i64 a3, .int .i64 a4, .int .i64 a5, .int .i64 a6, .int .i64 a7], .int .i64 n, .bool true]) ∧ 1 ≤ n ∧ n ≤ 8 ∧ rn 58 16 65535 s.data.toList [] (-1) = some ([a0, a1, a2, a3, a4, a5, a6, a7].take n)) ∨ (∃ a0 a1 a2 a3 a4 a5 a6 a7 : Int, e = .returned (.tuple #[.agg #[.int .i64 a0, .int .i64 a1, .int .i64 a2, .int .i64 a3, .int .i64 a4, .int .i64 a5, .int .i64 a6, .int .i64 a7], .int .i64 0, .bool false]) ∧ rn 58 16 65535 s.data.toList [] (-1) = none)) ∧ Below w.heap.size w w' := by
  go_enter Tryz.func63, Tryz.ntmps63
  go_wp2_with fail
  go_loopw [12] (fun t12 x => (t12 = .int .i64 0 ∧ ∃ (cur : Int) (pos : Nat), pos ≤ s.size ∧ -1 ≤ cur ∧ cur ≤ 65535 ∧ x = ((w.alloc (.cells #[.int .i64 0, .int .i64 0, .int .i64 0, .int .i64 0, .int .i64 0, .int .i64 0, .int .i64 0, .int .i64 0] 75)).alloc (.cells #[.int .i64 cur, .int .i64 0, .int .i64 0, .int .i64 0, .int .i64 0, .int .i64 0, .int .i64 0, .int .i64 0] 75)).alloc (.stringIter s pos) ∧ Hid (rn 58 16 65535 (s.data.toList.drop pos) [] cur = rn 58 16 65535 s.data.toList [] (-1))) ∨ (t12 = .int .i64 1 ∧ ∃ (d0 cur : Int) (pos : Nat), pos ≤ s.size ∧ -1 ≤ cur ∧ cur ≤ 65535 ∧ x = ((w.alloc (.cells #[.int .i64 0, .int .i64 0, .int .i64 0, .int .i64 0, .int .i64 0, .int .i64 0, .int .i64 0, .int .i64 0] 75)).alloc (.cells #[.int .i64 d0, .int .i64 cur, .int .i64 0, .int .i64 0, .int .i64 0, .int .i64 0, .int .i64 0, .int .i64 0] 75)).alloc (.stringIter s pos) ∧ Hid (rn 58 16 65535 (s.data.toList.drop pos) [d0] cur = rn 58 16 65535 s.data.toList [] (-1))) ∨ (t12 = .int .i64 2 ∧ ∃ (d0 d1 cur : Int) (pos : Nat), pos ≤ s.size ∧ -1 ≤ cur ∧ cur ≤ 65535 ∧ x = ((w.alloc (.cells #[.int .i64 0, .int .i64 0, .int .i64 0, .int .i64 0, .int .i64 0, .int .i64 0, .int .i64 0, .int .i64 0] 75)).alloc (.cells #[.int .i64 d0, .int .i64 d1, .int .i64 cur, .int .i64 0, .int .i64 0, .int .i64 0, .int .i64 0, .int .i64 0] 75)).alloc (.stringIter s pos) ∧ Hid (rn 58 16 65535 (s.data.toList.drop pos) [d0, d1] cur = rn 58 16 65535 s.data.toList [] (-1))) ∨ (t12 = .int .i64 3 ∧ ∃ (d0 d1 d2 cur : Int) (pos : Nat), pos ≤ s.size ∧ -1 ≤ cur ∧ cur ≤ 65535 ∧ x = ((w.alloc (.cells #[.int .i64 0, .int .i64 0, .int .i64 0, .int .i64 0, .int .i64 0, .int .i64 0, .int .i64 0, .int .i64 0] 75)).alloc (.cells #[.int .i64 d0, .int .i64 d1, .int .i64 d2, .int .i64 cur, .int .i64 0, .int .i64 0, .int .i64 0, .int .i64 0] 75)).alloc (.stringIter s pos) ∧ Hid (rn 58 16 65535 (s.data.toList.drop pos) [d0, d1, d2] cur = rn 58 16 65535 s.data.toList [] (-1))) ∨ (t12 = .int .i64 4 ∧ ∃ (d0 d1 d2 d3 cur : Int) (pos : Nat), pos ≤ s.size ∧ -1 ≤ cur ∧ cur ≤ 65535 ∧ x = ((w.alloc (.cells #[.int .i64 0, .int .i64 0, .int .i64 0, .int .i64 0, .int .i64 0, .int .i64 0, .int .i64 0, .int .i64 0] 75)).alloc (.cells #[.int .i64 d0, .int .i64 d1, .int .i64 d2, .int .i64 d3, .int .i64 cur, .int .i64 0, .int .i64 0, .int .i64 0] 75)).alloc (.stringIter s pos) ∧ Hid (rn 58 16 65535 (s.data.toList.drop pos) [d0, d1, d2, d3] cur = rn 58 16 65535 s.data.toList [] (-1))) ∨ (t12 = .int .i64 5 ∧ ∃ (d0 d1 d2 d3 d4 cur : Int) (pos : Nat), pos ≤ s.size ∧ -1 ≤ cur ∧ cur ≤ 65535 ∧ x = ((w.alloc (.cells #[.int .i64 0, .int .i64 0, .int .i64 0, .int .i64 0, .int .i64 0, .int .i64 0, .int .i64 0, .int .i64 0] 75)).alloc (.cells #[.int .i64 d0, .int .i64 d1, .int .i64 d2, .int .i64 d3, .int .i64 d4, .int .i64 cur, .int .i64 0, .int .i64 0] 75)).alloc (.stringIter s pos) ∧ Hid (rn 58 16 65535 (s.data.toList.drop pos) [d0, d1, d2, d3, d4] cur = rn 58 16 65535 s.data.toList [] (-1))) ∨ (t12 = .int .i64 6 ∧ ∃ (d0 d1 d2 d3 d4 d5 cur : Int) (pos : Nat), pos ≤ s.size ∧ -1 ≤ cur ∧ cur ≤ 65535 ∧ x = ((w.alloc (.cells #[.int .i64 0, .int .i64 0, .int .i64 0, .int .i64 0, .int .i64 0, .int .i64 0, .int .i64 0, .int .i64 0] 75)).alloc (.cells #[.int .i64 d0, .int .i64 d1, .int .i64 d2, .int .i64 d3, .int .i64 d4, .int .i64 d5, .int .i64 cur, .int .i64 0] 75)).alloc (.stringIter s pos) ∧ Hid (rn 58 16 65535 (s.data.toList.drop pos) [d0, d1, d2, d3, d4, d5] cur = rn 58 16 65535 s.data.toList [] (-1))) ∨ (t12 = .int .i64 7 ∧ ∃ (d0 d1 d2 d3 d4 d5 d6 cur : Int) (pos : Nat), pos ≤ s.size ∧ -1 ≤ cur ∧ cur ≤ 65535 ∧ x = ((w.alloc (.cells #[.int .i64 0, .int .i64 0, .int .i64 0, .int .i64 0, .int .i64 0, .int .i64 0, .int .i64 0, .int .i64 0] 75)).alloc (.cells #[.int .i64 d0, .int .i64 d1, .int .i64 d2, .int .i64 d3, .int .i64 d4, .int .i64 d5, .int .i64 d6, .int .i64 cur] 75)).alloc (.stringIter s pos) ∧ Hid (rn 58 16 65535 (s.data.toList.drop pos) [d0, d1, d2, d3, d4, d5, d6] cur = rn 58 16 65535 s.data.toList [] (-1)))) (fun _ x => s.size - x.iterPos (w.heap.size + 1 + 1))
  case atStart => exact Or.inl ⟨rfl, -1, 0, by omega, by omega, by omega, rfl, rfl⟩
  case round =>
    rcases hrel with ⟨rfl, cur, pos, hp, c0, c1, rfl, HR⟩ | ⟨rfl, d0, cur, pos, hp, c0, c1, rfl, HR⟩ | ⟨rfl, d0, d1, cur, pos, hp, c0, c1, rfl, HR⟩ | ⟨rfl, d0, d1, d2, cur, pos, hp, c0, c1, rfl, HR⟩ | ⟨rfl, d0, d1, d2, d3, cur, pos, hp, c0, c1, rfl, HR⟩ | ⟨rfl, d0, d1, d2, d3, d4, cur, pos, hp, c0, c1, rfl, HR⟩ | ⟨rfl, d0, d1, d2, d3, d4, d5, cur, pos, hp, c0, c1, rfl, HR⟩ | ⟨rfl, d0, d1, d2, d3, d4, d5, d6, cur, pos, hp, c0, c1, rfl, HR⟩
    · by_cases hlt : pos < s.size
      · obtain ⟨c, hcu, hdr⟩ := at_pos s pos hlt
        have HD : Hid (s.data.toList.drop pos = c :: s.data.toList.drop (pos + 1)) := hdr
        clear hdr
        by_cases hc : c.toNat < 128
        · have hnx := nxt_asciiV ((w.alloc (.cells #[.int .i64 0, .int .i64 0, .int .i64 0, .int .i64 0, .int .i64 0, .int .i64 0, .int .i64 0, .int .i64 0] 75)).alloc (.cells #[.int .i64 cur, .int .i64 0, .int .i64 0, .int .i64 0, .int .i64 0, .int .i64 0, .int .i64 0, .int .i64 0] 75)) (w.heap.size + 1 + 1) (by simp) s pos c hlt hcu hc
          obtain ⟨r, hr⟩ : ∃ r : Int, r = (c.toNat : Int) := ⟨_, rfl⟩
          rw [← hr] at hnx
          have rb : 0 ≤ r ∧ r < 128 := by omega
          have Hr : Hid (r = (c.toNat : Int)) := hr
          clear hr hc hcu
          cases hs : (r == 58)
          · have Hs : Hid (¬ (c.toNat : Int) = 58) := by show ¬ _; rw [← Hr.out]; simpa using hs
            obtain ⟨d, hd⟩ : ∃ d, d = dgv r := ⟨_, rfl⟩
            have db := dgv_bd r
            rw [← hd] at db
            have Hd : Hid (d = dgv r) := hd
            clear hd
            cases ho : dgk r 16
            · have HO : Hid (dgk r 16 = false) := ho
              clear ho
              go_wp2_with fail
              refine (digit_any r 16 (by omega) (by omega) (by omega) _).mono ?_
              rw [← Hd.out, HO.out]
              rintro e w2 ⟨rfl, rfl⟩
              go_wp2_with fail
              refine bodyPost_ret (v := .tuple #[.agg #[.int .i64 cur, .int .i64 0, .int .i64 0, .int .i64 0, .int .i64 0, .int .i64 0, .int .i64 0, .int .i64 0], .int .i64 0, .bool false]) (by simp [results, Tryz.results63, go_sem]) rfl ⟨Or.inr ⟨cur, 0, 0, 0, 0, 0, 0, 0, rfl, ?_⟩, ((((Below.refl _ w).alloc (Nat.le_refl _) _).alloc (by simp) _).alloc (by simp; omega) _)⟩
              rw [← HR.out, HD.out]
              exact rn_bad Hs.out (by rw [← Hr.out]; exact HO.out)
            · have dp : 0 ≤ d := by have := Hd.out; simp [dgk] at ho; omega
              have HO : Hid (dgk r 16 = true) := ho
              clear ho
              by_cases hcu0 : cur < 0
              · have hx := rn_dig (most := 65535) (r := s.data.toList.drop (pos + 1)) (done := []) (cur := cur) Hs.out (by rw [← Hr.out]; exact HO.out)
                rw [← Hr.out, ← Hd.out, if_pos hcu0, Int.zero_mul, Int.zero_add, if_neg (by omega)] at hx
                have HX := hid' hx
                clear hx
                go_wp2_with fail
                refine (digit_any r 16 (by omega) (by omega) (by omega) _).mono ?_
                rw [← Hd.out, HO.out]
                rintro e w2 ⟨rfl, rfl⟩
                go_wp2_with fail
                refine ⟨Or.inl ⟨rfl, d, pos + 1, by omega, by omega, by omega, rfl, ?_⟩, ?_⟩
                · show _ = _
                  rw [← HR.out, HD.out, HX.out]
                · exact meas _ _ _ _ _ (by simp) hlt
              · have hx := rn_dig (most := 65535) (r := s.data.toList.drop (pos + 1)) (done := []) (cur := cur) Hs.out (by rw [← Hr.out]; exact HO.out)
                rw [← Hr.out, ← Hd.out, if_neg hcu0] at hx
                by_cases hm : 65535 < cur * 16 + d
                · rw [if_pos hm] at hx
                  have HX := hid' hx
                  clear hx
                  go_wp2_with fail
                  refine (digit_any r 16 (by omega) (by omega) (by omega) _).mono ?_
                  rw [← Hd.out, HO.out]
                  rintro e w2 ⟨rfl, rfl⟩
                  go_wp2_with fail
                  refine bodyPost_ret (v := .tuple #[.agg #[.int .i64 (cur * 16 + d), .int .i64 0, .int .i64 0, .int .i64 0, .int .i64 0, .int .i64 0, .int .i64 0, .int .i64 0], .int .i64 0, .bool false]) (by simp [results, Tryz.results63, go_sem]) rfl ⟨Or.inr ⟨(cur * 16 + d), 0, 0, 0, 0, 0, 0, 0, rfl, ?_⟩, ((((Below.refl _ w).alloc (Nat.le_refl _) _).alloc (by simp) _).alloc (by simp; omega) _)⟩
                  rw [← HR.out, HD.out]
                  exact HX.out
                · rw [if_neg hm] at hx
                  have HX := hid' hx
                  clear hx
                  go_wp2_with fail
                  refine (digit_any r 16 (by omega) (by omega) (by omega) _).mono ?_
                  rw [← Hd.out, HO.out]
                  rintro e w2 ⟨rfl, rfl⟩
                  go_wp2_with fail
                  refine ⟨Or.inl ⟨rfl, cur * 16 + d, pos + 1, by omega, by omega, by omega, rfl, ?_⟩, ?_⟩
                  · show _ = _
                    rw [← HR.out, HD.out, HX.out]
                  · exact meas _ _ _ _ _ (by simp) hlt
          · have Hs : Hid ((c.toNat : Int) = 58) := by show _ = _; rw [← Hr.out]; simpa using hs
            go_wp2_with fail
            refine ⟨Or.inr (Or.inl ⟨rfl, cur, -1, pos + 1, by omega, by omega, by omega, rfl, ?_⟩), ?_⟩
            · show _ = _
              rw [← HR.out, HD.out, rn_sep Hs.out, if_neg (by simp)]; rfl
            · exact meas _ _ _ _ _ (by simp) hlt
        · obtain ⟨r, q, rlo, rhi, hnx⟩ := nxt_highV ((w.alloc (.cells #[.int .i64 0, .int .i64 0, .int .i64 0, .int .i64 0, .int .i64 0, .int .i64 0, .int .i64 0, .int .i64 0] 75)).alloc (.cells #[.int .i64 cur, .int .i64 0, .int .i64 0, .int .i64 0, .int .i64 0, .int .i64 0, .int .i64 0, .int .i64 0] 75)) (w.heap.size + 1 + 1) (by simp) s pos c hlt hcu hc
          have hs : (r == 58) = false := by rw [beq_eq_false_iff_ne]; omega
          have ho := high_bad r 16 rlo
          obtain ⟨d, hd⟩ : ∃ d, d = dgv r := ⟨_, rfl⟩
          have Hd : Hid (d = dgv r) := hd
          have HO : Hid (dgk r 16 = false) := ho
          have Hs : Hid (¬ (c.toNat : Int) = 58) := by show ¬ _; omega
          have Hb : Hid (dgk c.toNat 16 = false) := high_bad _ _ (by omega)
          clear hd ho hc hcu
          go_wp2_with fail
          refine (digit_any r 16 (by omega) (by omega) (by omega) _).mono ?_
          rw [← Hd.out, HO.out]
          rintro e w2 ⟨rfl, rfl⟩
          go_wp2_with fail
          refine bodyPost_ret (v := .tuple #[.agg #[.int .i64 cur, .int .i64 0, .int .i64 0, .int .i64 0, .int .i64 0, .int .i64 0, .int .i64 0, .int .i64 0], .int .i64 0, .bool false]) (by simp [results, Tryz.results63, go_sem]) rfl ⟨Or.inr ⟨cur, 0, 0, 0, 0, 0, 0, 0, rfl, ?_⟩, ((((Below.refl _ w).alloc (Nat.le_refl _) _).alloc (by simp) _).alloc (by simp; omega) _)⟩
          rw [← HR.out, HD.out]
          exact rn_bad Hs.out Hb.out
      · have hnx := nxt_endV ((w.alloc (.cells #[.int .i64 0, .int .i64 0, .int .i64 0, .int .i64 0, .int .i64 0, .int .i64 0, .int .i64 0, .int .i64 0] 75)).alloc (.cells #[.int .i64 cur, .int .i64 0, .int .i64 0, .int .i64 0, .int .i64 0, .int .i64 0, .int .i64 0, .int .i64 0] 75)) (w.heap.size + 1 + 1) (by simp) s pos hlt
        go_wp2_with fail
        refine bodyPost_ret (v := .tuple #[.agg #[.int .i64 cur, .int .i64 0, .int .i64 0, .int .i64 0, .int .i64 0, .int .i64 0, .int .i64 0, .int .i64 0], .int .i64 1, .bool true]) (by simp [results, Tryz.results63, go_sem]) rfl ⟨Or.inl ⟨cur, 0, 0, 0, 0, 0, 0, 0, 1, rfl, by omega, by omega, ?_⟩, ((((Below.refl _ w).alloc (Nat.le_refl _) _).alloc (by simp) _).alloc (by simp; omega) _)⟩
        rw [← HR.out, List.drop_eq_nil_of_le (by simp; omega)]
        rfl
    · by_cases hlt : pos < s.size
      · obtain ⟨c, hcu, hdr⟩ := at_pos s pos hlt
        have HD : Hid (s.data.toList.drop pos = c :: s.data.toList.drop (pos + 1)) := hdr
        clear hdr
        by_cases hc : c.toNat < 128
        · have hnx := nxt_asciiV ((w.alloc (.cells #[.int .i64 0, .int .i64 0, .int .i64 0, .int .i64 0, .int .i64 0, .int .i64 0, .int .i64 0, .int .i64 0] 75)).alloc (.cells #[.int .i64 d0, .int .i64 cur, .int .i64 0, .int .i64 0, .int .i64 0, .int .i64 0, .int .i64 0, .int .i64 0] 75)) (w.heap.size + 1 + 1) (by simp) s pos c hlt hcu hc
          obtain ⟨r, hr⟩ : ∃ r : Int, r = (c.toNat : Int) := ⟨_, rfl⟩
          rw [← hr] at hnx
          have rb : 0 ≤ r ∧ r < 128 := by omega
          have Hr : Hid (r = (c.toNat : Int)) := hr
          clear hr hc hcu
          cases hs : (r == 58)
          · have Hs : Hid (¬ (c.toNat : Int) = 58) := by show ¬ _; rw [← Hr.out]; simpa using hs
            obtain ⟨d, hd⟩ : ∃ d, d = dgv r := ⟨_, rfl⟩
            have db := dgv_bd r
            rw [← hd] at db
            have Hd : Hid (d = dgv r) := hd
            clear hd
            cases ho : dgk r 16
            · have HO : Hid (dgk r 16 = false) := ho
              clear ho
              go_wp2_with fail
              refine (digit_any r 16 (by omega) (by omega) (by omega) _).mono ?_
              rw [← Hd.out, HO.out]
              rintro e w2 ⟨rfl, rfl⟩
              go_wp2_with fail
              refine bodyPost_ret (v := .tuple #[.agg #[.int .i64 d0, .int .i64 cur, .int .i64 0, .int .i64 0, .int .i64 0, .int .i64 0, .int .i64 0, .int .i64 0], .int .i64 0, .bool false]) (by simp [results, Tryz.results63, go_sem]) rfl ⟨Or.inr ⟨d0, cur, 0, 0, 0, 0, 0, 0, rfl, ?_⟩, ((((Below.refl _ w).alloc (Nat.le_refl _) _).alloc (by simp) _).alloc (by simp; omega) _)⟩
              rw [← HR.out, HD.out]
              exact rn_bad Hs.out (by rw [← Hr.out]; exact HO.out)
            · have dp : 0 ≤ d := by have := Hd.out; simp [dgk] at ho; omega
              have HO : Hid (dgk r 16 = true) := ho
              clear ho
              by_cases hcu0 : cur < 0
              · have hx := rn_dig (most := 65535) (r := s.data.toList.drop (pos + 1)) (done := [d0]) (cur := cur) Hs.out (by rw [← Hr.out]; exact HO.out)
                rw [← Hr.out, ← Hd.out, if_pos hcu0, Int.zero_mul, Int.zero_add, if_neg (by omega)] at hx
                have HX := hid' hx
                clear hx
                go_wp2_with fail
                refine (digit_any r 16 (by omega) (by omega) (by omega) _).mono ?_
                rw [← Hd.out, HO.out]
                rintro e w2 ⟨rfl, rfl⟩
                go_wp2_with fail
                refine ⟨Or.inr (Or.inl ⟨rfl, d0, d, pos + 1, by omega, by omega, by omega, rfl, ?_⟩), ?_⟩
                · show _ = _
                  rw [← HR.out, HD.out, HX.out]
                · exact meas _ _ _ _ _ (by simp) hlt
              · have hx := rn_dig (most := 65535) (r := s.data.toList.drop (pos + 1)) (done := [d0]) (cur := cur) Hs.out (by rw [← Hr.out]; exact HO.out)
                rw [← Hr.out, ← Hd.out, if_neg hcu0] at hx
                by_cases hm : 65535 < cur * 16 + d
                · rw [if_pos hm] at hx
                  have HX := hid' hx
                  clear hx
                  go_wp2_with fail
                  refine (digit_any r 16 (by omega) (by omega) (by omega) _).mono ?_
                  rw [← Hd.out, HO.out]
                  rintro e w2 ⟨rfl, rfl⟩
                  go_wp2_with fail
                  refine bodyPost_ret (v := .tuple #[.agg #[.int .i64 d0, .int .i64 (cur * 16 + d), .int .i64 0, .int .i64 0, .int .i64 0, .int .i64 0, .int .i64 0, .int .i64 0], .int .i64 0, .bool false]) (by simp [results, Tryz.results63, go_sem]) rfl ⟨Or.inr ⟨d0, (cur * 16 + d), 0, 0, 0, 0, 0, 0, rfl, ?_⟩, ((((Below.refl _ w).alloc (Nat.le_refl _) _).alloc (by simp) _).alloc (by simp; omega) _)⟩
                  rw [← HR.out, HD.out]
                  exact HX.out
                · rw [if_neg hm] at hx
                  have HX := hid' hx
                  clear hx
                  go_wp2_with fail
                  refine (digit_any r 16 (by omega) (by omega) (by omega) _).mono ?_
                  rw [← Hd.out, HO.out]
                  rintro e w2 ⟨rfl, rfl⟩
                  go_wp2_with fail
                  refine ⟨Or.inr (Or.inl ⟨rfl, d0, cur * 16 + d, pos + 1, by omega, by omega, by omega, rfl, ?_⟩), ?_⟩
                  · show _ = _
                    rw [← HR.out, HD.out, HX.out]
                  · exact meas _ _ _ _ _ (by simp) hlt
          · have Hs : Hid ((c.toNat : Int) = 58) := by show _ = _; rw [← Hr.out]; simpa using hs
            go_wp2_with fail
            refine ⟨Or.inr (Or.inr (Or.inl ⟨rfl, d0, cur, -1, pos + 1, by omega, by omega, by omega, rfl, ?_⟩)), ?_⟩
            · show _ = _
              rw [← HR.out, HD.out, rn_sep Hs.out, if_neg (by simp)]; rfl
            · exact meas _ _ _ _ _ (by simp) hlt
        · obtain ⟨r, q, rlo, rhi, hnx⟩ := nxt_highV ((w.alloc (.cells #[.int .i64 0, .int .i64 0, .int .i64 0, .int .i64 0, .int .i64 0, .int .i64 0, .int .i64 0, .int .i64 0] 75)).alloc (.cells #[.int .i64 d0, .int .i64 cur, .int .i64 0, .int .i64 0, .int .i64 0, .int .i64 0, .int .i64 0, .int .i64 0] 75)) (w.heap.size + 1 + 1) (by simp) s pos c hlt hcu hc
          have hs : (r == 58) = false := by rw [beq_eq_false_iff_ne]; omega
          have ho := high_bad r 16 rlo
          obtain ⟨d, hd⟩ : ∃ d, d = dgv r := ⟨_, rfl⟩
          have Hd : Hid (d = dgv r) := hd
          have HO : Hid (dgk r 16 = false) := ho
          have Hs : Hid (¬ (c.toNat : Int) = 58) := by show ¬ _; omega
          have Hb : Hid (dgk c.toNat 16 = false) := high_bad _ _ (by omega)
          clear hd ho hc hcu
          go_wp2_with fail
          refine (digit_any r 16 (by omega) (by omega) (by omega) _).mono ?_
          rw [← Hd.out, HO.out]
          rintro e w2 ⟨rfl, rfl⟩
          go_wp2_with fail
          refine bodyPost_ret (v := .tuple #[.agg #[.int .i64 d0, .int .i64 cur, .int .i64 0, .int .i64 0, .int .i64 0, .int .i64 0, .int .i64 0, .int .i64 0], .int .i64 0, .bool false]) (by simp [results, Tryz.results63, go_sem]) rfl ⟨Or.inr ⟨d0, cur, 0, 0, 0, 0, 0, 0, rfl, ?_⟩, ((((Below.refl _ w).alloc (Nat.le_refl _) _).alloc (by simp) _).alloc (by simp; omega) _)⟩
          rw [← HR.out, HD.out]
          exact rn_bad Hs.out Hb.out
      · have hnx := nxt_endV ((w.alloc (.cells #[.int .i64 0, .int .i64 0, .int .i64 0, .int .i64 0, .int .i64 0, .int .i64 0, .int .i64 0, .int .i64 0] 75)).alloc (.cells #[.int .i64 d0, .int .i64 cur, .int .i64 0, .int .i64 0, .int .i64 0, .int .i64 0, .int .i64 0, .int .i64 0] 75)) (w.heap.size + 1 + 1) (by simp) s pos hlt
        go_wp2_with fail
        refine bodyPost_ret (v := .tuple #[.agg #[.int .i64 d0, .int .i64 cur, .int .i64 0, .int .i64 0, .int .i64 0, .int .i64 0, .int .i64 0, .int .i64 0], .int .i64 2, .bool true]) (by simp [results, Tryz.results63, go_sem]) rfl ⟨Or.inl ⟨d0, cur, 0, 0, 0, 0, 0, 0, 2, rfl, by omega, by omega, ?_⟩, ((((Below.refl _ w).alloc (Nat.le_refl _) _).alloc (by simp) _).alloc (by simp; omega) _)⟩
        rw [← HR.out, List.drop_eq_nil_of_le (by simp; omega)]
        rfl
    · by_cases hlt : pos < s.size
      · obtain ⟨c, hcu, hdr⟩ := at_pos s pos hlt
        have HD : Hid (s.data.toList.drop pos = c :: s.data.toList.drop (pos + 1)) := hdr
        clear hdr
        by_cases hc : c.toNat < 128
        · have hnx := nxt_asciiV ((w.alloc (.cells #[.int .i64 0, .int .i64 0, .int .i64 0, .int .i64 0, .int .i64 0, .int .i64 0, .int .i64 0, .int .i64 0] 75)).alloc (.cells #[.int .i64 d0, .int .i64 d1, .int .i64 cur, .int .i64 0, .int .i64 0, .int .i64 0, .int .i64 0, .int .i64 0] 75)) (w.heap.size + 1 + 1) (by simp) s pos c hlt hcu hc
          obtain ⟨r, hr⟩ : ∃ r : Int, r = (c.toNat : Int) := ⟨_, rfl⟩
          rw [← hr] at hnx
          have rb : 0 ≤ r ∧ r < 128 := by omega
          have Hr : Hid (r = (c.toNat : Int)) := hr
          clear hr hc hcu
          cases hs : (r == 58)
          · have Hs : Hid (¬ (c.toNat : Int) = 58) := by show ¬ _; rw [← Hr.out]; simpa using hs
            obtain ⟨d, hd⟩ : ∃ d, d = dgv r := ⟨_, rfl⟩
            have db := dgv_bd r
            rw [← hd] at db
            have Hd : Hid (d = dgv r) := hd
            clear hd
            cases ho : dgk r 16
            · have HO : Hid (dgk r 16 = false) := ho
              clear ho
              go_wp2_with fail
              refine (digit_any r 16 (by omega) (by omega) (by omega) _).mono ?_
              rw [← Hd.out, HO.out]
              rintro e w2 ⟨rfl, rfl⟩
              go_wp2_with fail
              refine bodyPost_ret (v := .tuple #[.agg #[.int .i64 d0, .int .i64 d1, .int .i64 cur, .int .i64 0, .int .i64 0, .int .i64 0, .int .i64 0, .int .i64 0], .int .i64 0, .bool false]) (by simp [results, Tryz.results63, go_sem]) rfl ⟨Or.inr ⟨d0, d1, cur, 0, 0, 0, 0, 0, rfl, ?_⟩, ((((Below.refl _ w).alloc (Nat.le_refl _) _).alloc (by simp) _).alloc (by simp; omega) _)⟩
              rw [← HR.out, HD.out]
              exact rn_bad Hs.out (by rw [← Hr.out]; exact HO.out)
            · have dp : 0 ≤ d := by have := Hd.out; simp [dgk] at ho; omega
              have HO : Hid (dgk r 16 = true) := ho
              clear ho
              by_cases hcu0 : cur < 0
              · have hx := rn_dig (most := 65535) (r := s.data.toList.drop (pos + 1)) (done := [d0, d1]) (cur := cur) Hs.out (by rw [← Hr.out]; exact HO.out)
                rw [← Hr.out, ← Hd.out, if_pos hcu0, Int.zero_mul, Int.zero_add, if_neg (by omega)] at hx
                have HX := hid' hx
                clear hx
                go_wp2_with fail
                refine (digit_any r 16 (by omega) (by omega) (by omega) _).mono ?_
                rw [← Hd.out, HO.out]
                rintro e w2 ⟨rfl, rfl⟩
                go_wp2_with fail
                refine ⟨Or.inr (Or.inr (Or.inl ⟨rfl, d0, d1, d, pos + 1, by omega, by omega, by omega, rfl, ?_⟩)), ?_⟩
                · show _ = _
                  rw [← HR.out, HD.out, HX.out]
                · exact meas _ _ _ _ _ (by simp) hlt
              · have hx := rn_dig (most := 65535) (r := s.data.toList.drop (pos + 1)) (done := [d0, d1]) (cur := cur) Hs.out (by rw [← Hr.out]; exact HO.out)
                rw [← Hr.out, ← Hd.out, if_neg hcu0] at hx
                by_cases hm : 65535 < cur * 16 + d
                · rw [if_pos hm] at hx
                  have HX := hid' hx
                  clear hx
                  go_wp2_with fail
                  refine (digit_any r 16 (by omega) (by omega) (by omega) _).mono ?_
                  rw [← Hd.out, HO.out]
                  rintro e w2 ⟨rfl, rfl⟩
                  go_wp2_with fail
                  refine bodyPost_ret (v := .tuple #[.agg #[.int .i64 d0, .int .i64 d1, .int .i64 (cur * 16 + d), .int .i64 0, .int .i64 0, .int .i64 0, .int .i64 0, .int .i64 0], .int .i64 0, .bool false]) (by simp [results, Tryz.results63, go_sem]) rfl ⟨Or.inr ⟨d0, d1, (cur * 16 + d), 0, 0, 0, 0, 0, rfl, ?_⟩, ((((Below.refl _ w).alloc (Nat.le_refl _) _).alloc (by simp) _).alloc (by simp; omega) _)⟩
                  rw [← HR.out, HD.out]
                  exact HX.out
                · rw [if_neg hm] at hx
                  have HX := hid' hx
                  clear hx
                  go_wp2_with fail
                  refine (digit_any r 16 (by omega) (by omega) (by omega) _).mono ?_
                  rw [← Hd.out, HO.out]
                  rintro e w2 ⟨rfl, rfl⟩
                  go_wp2_with fail
                  refine ⟨Or.inr (Or.inr (Or.inl ⟨rfl, d0, d1, cur * 16 + d, pos + 1, by omega, by omega, by omega, rfl, ?_⟩)), ?_⟩
                  · show _ = _
                    rw [← HR.out, HD.out, HX.out]
                  · exact meas _ _ _ _ _ (by simp) hlt
          · have Hs : Hid ((c.toNat : Int) = 58) := by show _ = _; rw [← Hr.out]; simpa using hs
            go_wp2_with fail
            refine ⟨Or.inr (Or.inr (Or.inr (Or.inl ⟨rfl, d0, d1, cur, -1, pos + 1, by omega, by omega, by omega, rfl, ?_⟩))), ?_⟩
            · show _ = _
              rw [← HR.out, HD.out, rn_sep Hs.out, if_neg (by simp)]; rfl
            · exact meas _ _ _ _ _ (by simp) hlt
        · obtain ⟨r, q, rlo, rhi, hnx⟩ := nxt_highV ((w.alloc (.cells #[.int .i64 0, .int .i64 0, .int .i64 0, .int .i64 0, .int .i64 0, .int .i64 0, .int .i64 0, .int .i64 0] 75)).alloc (.cells #[.int .i64 d0, .int .i64 d1, .int .i64 cur, .int .i64 0, .int .i64 0, .int .i64 0, .int .i64 0, .int .i64 0] 75)) (w.heap.size + 1 + 1) (by simp) s pos c hlt hcu hc
          have hs : (r == 58) = false := by rw [beq_eq_false_iff_ne]; omega
          have ho := high_bad r 16 rlo
          obtain ⟨d, hd⟩ : ∃ d, d = dgv r := ⟨_, rfl⟩
          have Hd : Hid (d = dgv r) := hd
          have HO : Hid (dgk r 16 = false) := ho
          have Hs : Hid (¬ (c.toNat : Int) = 58) := by show ¬ _; omega
          have Hb : Hid (dgk c.toNat 16 = false) := high_bad _ _ (by omega)
          clear hd ho hc hcu
          go_wp2_with fail
          refine (digit_any r 16 (by omega) (by omega) (by omega) _).mono ?_
          rw [← Hd.out, HO.out]
          rintro e w2 ⟨rfl, rfl⟩
          go_wp2_with fail
          refine bodyPost_ret (v := .tuple #[.agg #[.int .i64 d0, .int .i64 d1, .int .i64 cur, .int .i64 0, .int .i64 0, .int .i64 0, .int .i64 0, .int .i64 0], .int .i64 0, .bool false]) (by simp [results, Tryz.results63, go_sem]) rfl ⟨Or.inr ⟨d0, d1, cur, 0, 0, 0, 0, 0, rfl, ?_⟩, ((((Below.refl _ w).alloc (Nat.le_refl _) _).alloc (by simp) _).alloc (by simp; omega) _)⟩
          rw [← HR.out, HD.out]
          exact rn_bad Hs.out Hb.out
      · have hnx := nxt_endV ((w.alloc (.cells #[.int .i64 0, .int .i64 0, .int .i64 0, .int .i64 0, .int .i64 0, .int .i64 0, .int .i64 0, .int .i64 0] 75)).alloc (.cells #[.int .i64 d0, .int .i64 d1, .int .i64 cur, .int .i64 0, .int .i64 0, .int .i64 0, .int .i64 0, .int .i64 0] 75)) (w.heap.size + 1 + 1) (by simp) s pos hlt
        go_wp2_with fail
        refine bodyPost_ret (v := .tuple #[.agg #[.int .i64 d0, .int .i64 d1, .int .i64 cur, .int .i64 0, .int .i64 0, .int .i64 0, .int .i64 0, .int .i64 0], .int .i64 3, .bool true]) (by simp [results, Tryz.results63, go_sem]) rfl ⟨Or.inl ⟨d0, d1, cur, 0, 0, 0, 0, 0, 3, rfl, by omega, by omega, ?_⟩, ((((Below.refl _ w).alloc (Nat.le_refl _) _).alloc (by simp) _).alloc (by simp; omega) _)⟩
        rw [← HR.out, List.drop_eq_nil_of_le (by simp; omega)]
        rfl
    · by_cases hlt : pos < s.size
      · obtain ⟨c, hcu, hdr⟩ := at_pos s pos hlt
        have HD : Hid (s.data.toList.drop pos = c :: s.data.toList.drop (pos + 1)) := hdr
        clear hdr
        by_cases hc : c.toNat < 128
        · have hnx := nxt_asciiV ((w.alloc (.cells #[.int .i64 0, .int .i64 0, .int .i64 0, .int .i64 0, .int .i64 0, .int .i64 0, .int .i64 0, .int .i64 0] 75)).alloc (.cells #[.int .i64 d0, .int .i64 d1, .int .i64 d2, .int .i64 cur, .int .i64 0, .int .i64 0, .int .i64 0, .int .i64 0] 75)) (w.heap.size + 1 + 1) (by simp) s pos c hlt hcu hc
          obtain ⟨r, hr⟩ : ∃ r : Int, r = (c.toNat : Int) := ⟨_, rfl⟩
          rw [← hr] at hnx
          have rb : 0 ≤ r ∧ r < 128 := by omega
          have Hr : Hid (r = (c.toNat : Int)) := hr
          clear hr hc hcu
          cases hs : (r == 58)
          · have Hs : Hid (¬ (c.toNat : Int) = 58) := by show ¬ _; rw [← Hr.out]; simpa using hs
            obtain ⟨d, hd⟩ : ∃ d, d = dgv r := ⟨_, rfl⟩
            have db := dgv_bd r
            rw [← hd] at db
            have Hd : Hid (d = dgv r) := hd
            clear hd
            cases ho : dgk r 16
            · have HO : Hid (dgk r 16 = false) := ho
              clear ho
              go_wp2_with fail
              refine (digit_any r 16 (by omega) (by omega) (by omega) _).mono ?_
              rw [← Hd.out, HO.out]
              rintro e w2 ⟨rfl, rfl⟩
              go_wp2_with fail
              refine bodyPost_ret (v := .tuple #[.agg #[.int .i64 d0, .int .i64 d1, .int .i64 d2, .int .i64 cur, .int .i64 0, .int .i64 0, .int .i64 0, .int .i64 0], .int .i64 0, .bool false]) (by simp [results, Tryz.results63, go_sem]) rfl ⟨Or.inr ⟨d0, d1, d2, cur, 0, 0, 0, 0, rfl, ?_⟩, ((((Below.refl _ w).alloc (Nat.le_refl _) _).alloc (by simp) _).alloc (by simp; omega) _)⟩
              rw [← HR.out, HD.out]
              exact rn_bad Hs.out (by rw [← Hr.out]; exact HO.out)
            · have dp : 0 ≤ d := by have := Hd.out; simp [dgk] at ho; omega
              have HO : Hid (dgk r 16 = true) := ho
              clear ho
              by_cases hcu0 : cur < 0
              · have hx := rn_dig (most := 65535) (r := s.data.toList.drop (pos + 1)) (done := [d0, d1, d2]) (cur := cur) Hs.out (by rw [← Hr.out]; exact HO.out)
                rw [← Hr.out, ← Hd.out, if_pos hcu0, Int.zero_mul, Int.zero_add, if_neg (by omega)] at hx
                have HX := hid' hx
                clear hx
                go_wp2_with fail
                refine (digit_any r 16 (by omega) (by omega) (by omega) _).mono ?_
                rw [← Hd.out, HO.out]
                rintro e w2 ⟨rfl, rfl⟩
                go_wp2_with fail
                refine ⟨Or.inr (Or.inr (Or.inr (Or.inl ⟨rfl, d0, d1, d2, d, pos + 1, by omega, by omega, by omega, rfl, ?_⟩))), ?_⟩
                · show _ = _
                  rw [← HR.out, HD.out, HX.out]
                · exact meas _ _ _ _ _ (by simp) hlt
              · have hx := rn_dig (most := 65535) (r := s.data.toList.drop (pos + 1)) (done := [d0, d1, d2]) (cur := cur) Hs.out (by rw [← Hr.out]; exact HO.out)
                rw [← Hr.out, ← Hd.out, if_neg hcu0] at hx
                by_cases hm : 65535 < cur * 16 + d
                · rw [if_pos hm] at hx
                  have HX := hid' hx
                  clear hx
                  go_wp2_with fail
                  refine (digit_any r 16 (by omega) (by omega) (by omega) _).mono ?_
                  rw [← Hd.out, HO.out]
                  rintro e w2 ⟨rfl, rfl⟩
                  go_wp2_with fail
                  refine bodyPost_ret (v := .tuple #[.agg #[.int .i64 d0, .int .i64 d1, .int .i64 d2, .int .i64 (cur * 16 + d), .int .i64 0, .int .i64 0, .int .i64 0, .int .i64 0], .int .i64 0, .bool false]) (by simp [results, Tryz.results63, go_sem]) rfl ⟨Or.inr ⟨d0, d1, d2, (cur * 16 + d), 0, 0, 0, 0, rfl, ?_⟩, ((((Below.refl _ w).alloc (Nat.le_refl _) _).alloc (by simp) _).alloc (by simp; omega) _)⟩
                  rw [← HR.out, HD.out]
                  exact HX.out
                · rw [if_neg hm] at hx
                  have HX := hid' hx
                  clear hx
                  go_wp2_with fail
                  refine (digit_any r 16 (by omega) (by omega) (by omega) _).mono ?_
                  rw [← Hd.out, HO.out]
                  rintro e w2 ⟨rfl, rfl⟩
                  go_wp2_with fail
                  refine ⟨Or.inr (Or.inr (Or.inr (Or.inl ⟨rfl, d0, d1, d2, cur * 16 + d, pos + 1, by omega, by omega, by omega, rfl, ?_⟩))), ?_⟩
                  · show _ = _
                    rw [← HR.out, HD.out, HX.out]
                  · exact meas _ _ _ _ _ (by simp) hlt
          · have Hs : Hid ((c.toNat : Int) = 58) := by show _ = _; rw [← Hr.out]; simpa using hs
            go_wp2_with fail
            refine ⟨Or.inr (Or.inr (Or.inr (Or.inr (Or.inl ⟨rfl, d0, d1, d2, cur, -1, pos + 1, by omega, by omega, by omega, rfl, ?_⟩)))), ?_⟩
            · show _ = _
              rw [← HR.out, HD.out, rn_sep Hs.out, if_neg (by simp)]; rfl
            · exact meas _ _ _ _ _ (by simp) hlt
        · obtain ⟨r, q, rlo, rhi, hnx⟩ := nxt_highV ((w.alloc (.cells #[.int .i64 0, .int .i64 0, .int .i64 0, .int .i64 0, .int .i64 0, .int .i64 0, .int .i64 0, .int .i64 0] 75)).alloc (.cells #[.int .i64 d0, .int .i64 d1, .int .i64 d2, .int .i64 cur, .int .i64 0, .int .i64 0, .int .i64 0, .int .i64 0] 75)) (w.heap.size + 1 + 1) (by simp) s pos c hlt hcu hc
          have hs : (r == 58) = false := by rw [beq_eq_false_iff_ne]; omega
          have ho := high_bad r 16 rlo
          obtain ⟨d, hd⟩ : ∃ d, d = dgv r := ⟨_, rfl⟩
          have Hd : Hid (d = dgv r) := hd
          have HO : Hid (dgk r 16 = false) := ho
          have Hs : Hid (¬ (c.toNat : Int) = 58) := by show ¬ _; omega
          have Hb : Hid (dgk c.toNat 16 = false) := high_bad _ _ (by omega)
          clear hd ho hc hcu
          go_wp2_with fail
          refine (digit_any r 16 (by omega) (by omega) (by omega) _).mono ?_
          rw [← Hd.out, HO.out]
          rintro e w2 ⟨rfl, rfl⟩
          go_wp2_with fail
          refine bodyPost_ret (v := .tuple #[.agg #[.int .i64 d0, .int .i64 d1, .int .i64 d2, .int .i64 cur, .int .i64 0, .int .i64 0, .int .i64 0, .int .i64 0], .int .i64 0, .bool false]) (by simp [results, Tryz.results63, go_sem]) rfl ⟨Or.inr ⟨d0, d1, d2, cur, 0, 0, 0, 0, rfl, ?_⟩, ((((Below.refl _ w).alloc (Nat.le_refl _) _).alloc (by simp) _).alloc (by simp; omega) _)⟩
          rw [← HR.out, HD.out]
          exact rn_bad Hs.out Hb.out
      · have hnx := nxt_endV ((w.alloc (.cells #[.int .i64 0, .int .i64 0, .int .i64 0, .int .i64 0, .int .i64 0, .int .i64 0, .int .i64 0, .int .i64 0] 75)).alloc (.cells #[.int .i64 d0, .int .i64 d1, .int .i64 d2, .int .i64 cur, .int .i64 0, .int .i64 0, .int .i64 0, .int .i64 0] 75)) (w.heap.size + 1 + 1) (by simp) s pos hlt
        go_wp2_with fail
        refine bodyPost_ret (v := .tuple #[.agg #[.int .i64 d0, .int .i64 d1, .int .i64 d2, .int .i64 cur, .int .i64 0, .int .i64 0, .int .i64 0, .int .i64 0], .int .i64 4, .bool true]) (by simp [results, Tryz.results63, go_sem]) rfl ⟨Or.inl ⟨d0, d1, d2, cur, 0, 0, 0, 0, 4, rfl, by omega, by omega, ?_⟩, ((((Below.refl _ w).alloc (Nat.le_refl _) _).alloc (by simp) _).alloc (by simp; omega) _)⟩
        rw [← HR.out, List.drop_eq_nil_of_le (by simp; omega)]
        rfl
    · by_cases hlt : pos < s.size
      · obtain ⟨c, hcu, hdr⟩ := at_pos s pos hlt
        have HD : Hid (s.data.toList.drop pos = c :: s.data.toList.drop (pos + 1)) := hdr
        clear hdr
        by_cases hc : c.toNat < 128
        · have hnx := nxt_asciiV ((w.alloc (.cells #[.int .i64 0, .int .i64 0, .int .i64 0, .int .i64 0, .int .i64 0, .int .i64 0, .int .i64 0, .int .i64 0] 75)).alloc (.cells #[.int .i64 d0, .int .i64 d1, .int .i64 d2, .int .i64 d3, .int .i64 cur, .int .i64 0, .int .i64 0, .int .i64 0] 75)) (w.heap.size + 1 + 1) (by simp) s pos c hlt hcu hc
          obtain ⟨r, hr⟩ : ∃ r : Int, r = (c.toNat : Int) := ⟨_, rfl⟩
          rw [← hr] at hnx
          have rb : 0 ≤ r ∧ r < 128 := by omega
          have Hr : Hid (r = (c.toNat : Int)) := hr
          clear hr hc hcu
          cases hs : (r == 58)
          · have Hs : Hid (¬ (c.toNat : Int) = 58) := by show ¬ _; rw [← Hr.out]; simpa using hs
            obtain ⟨d, hd⟩ : ∃ d, d = dgv r := ⟨_, rfl⟩
            have db := dgv_bd r
            rw [← hd] at db
            have Hd : Hid (d = dgv r) := hd
            clear hd
            cases ho : dgk r 16
            · have HO : Hid (dgk r 16 = false) := ho
              clear ho
              go_wp2_with fail
              refine (digit_any r 16 (by omega) (by omega) (by omega) _).mono ?_
              rw [← Hd.out, HO.out]
              rintro e w2 ⟨rfl, rfl⟩
              go_wp2_with fail
              refine bodyPost_ret (v := .tuple #[.agg #[.int .i64 d0, .int .i64 d1, .int .i64 d2, .int .i64 d3, .int .i64 cur, .int .i64 0, .int .i64 0, .int .i64 0], .int .i64 0, .bool false]) (by simp [results, Tryz.results63, go_sem]) rfl ⟨Or.inr ⟨d0, d1, d2, d3, cur, 0, 0, 0, rfl, ?_⟩, ((((Below.refl _ w).alloc (Nat.le_refl _) _).alloc (by simp) _).alloc (by simp; omega) _)⟩
              rw [← HR.out, HD.out]
              exact rn_bad Hs.out (by rw [← Hr.out]; exact HO.out)
            · have dp : 0 ≤ d := by have := Hd.out; simp [dgk] at ho; omega
              have HO : Hid (dgk r 16 = true) := ho
              clear ho
              by_cases hcu0 : cur < 0
              · have hx := rn_dig (most := 65535) (r := s.data.toList.drop (pos + 1)) (done := [d0, d1, d2, d3]) (cur := cur) Hs.out (by rw [← Hr.out]; exact HO.out)
                rw [← Hr.out, ← Hd.out, if_pos hcu0, Int.zero_mul, Int.zero_add, if_neg (by omega)] at hx
                have HX := hid' hx
                clear hx
                go_wp2_with fail
                refine (digit_any r 16 (by omega) (by omega) (by omega) _).mono ?_
                rw [← Hd.out, HO.out]
                rintro e w2 ⟨rfl, rfl⟩
                go_wp2_with fail
                refine ⟨Or.inr (Or.inr (Or.inr (Or.inr (Or.inl ⟨rfl, d0, d1, d2, d3, d, pos + 1, by omega, by omega, by omega, rfl, ?_⟩)))), ?_⟩
                · show _ = _
                  rw [← HR.out, HD.out, HX.out]
                · exact meas _ _ _ _ _ (by simp) hlt
              · have hx := rn_dig (most := 65535) (r := s.data.toList.drop (pos + 1)) (done := [d0, d1, d2, d3]) (cur := cur) Hs.out (by rw [← Hr.out]; exact HO.out)
                rw [← Hr.out, ← Hd.out, if_neg hcu0] at hx
                by_cases hm : 65535 < cur * 16 + d
                · rw [if_pos hm] at hx
                  have HX := hid' hx
                  clear hx
                  go_wp2_with fail
                  refine (digit_any r 16 (by omega) (by omega) (by omega) _).mono ?_
                  rw [← Hd.out, HO.out]
                  rintro e w2 ⟨rfl, rfl⟩
                  go_wp2_with fail
                  refine bodyPost_ret (v := .tuple #[.agg #[.int .i64 d0, .int .i64 d1, .int .i64 d2, .int .i64 d3, .int .i64 (cur * 16 + d), .int .i64 0, .int .i64 0, .int .i64 0], .int .i64 0, .bool false]) (by simp [results, Tryz.results63, go_sem]) rfl ⟨Or.inr ⟨d0, d1, d2, d3, (cur * 16 + d), 0, 0, 0, rfl, ?_⟩, ((((Below.refl _ w).alloc (Nat.le_refl _) _).alloc (by simp) _).alloc (by simp; omega) _)⟩
                  rw [← HR.out, HD.out]
                  exact HX.out
                · rw [if_neg hm] at hx
                  have HX := hid' hx
                  clear hx
                  go_wp2_with fail
                  refine (digit_any r 16 (by omega) (by omega) (by omega) _).mono ?_
                  rw [← Hd.out, HO.out]
                  rintro e w2 ⟨rfl, rfl⟩
                  go_wp2_with fail
                  refine ⟨Or.inr (Or.inr (Or.inr (Or.inr (Or.inl ⟨rfl, d0, d1, d2, d3, cur * 16 + d, pos + 1, by omega, by omega, by omega, rfl, ?_⟩)))), ?_⟩
                  · show _ = _
                    rw [← HR.out, HD.out, HX.out]
                  · exact meas _ _ _ _ _ (by simp) hlt
          · have Hs : Hid ((c.toNat : Int) = 58) := by show _ = _; rw [← Hr.out]; simpa using hs
            go_wp2_with fail
            refine ⟨Or.inr (Or.inr (Or.inr (Or.inr (Or.inr (Or.inl ⟨rfl, d0, d1, d2, d3, cur, -1, pos + 1, by omega, by omega, by omega, rfl, ?_⟩))))), ?_⟩
            · show _ = _
              rw [← HR.out, HD.out, rn_sep Hs.out, if_neg (by simp)]; rfl
            · exact meas _ _ _ _ _ (by simp) hlt
        · obtain ⟨r, q, rlo, rhi, hnx⟩ := nxt_highV ((w.alloc (.cells #[.int .i64 0, .int .i64 0, .int .i64 0, .int .i64 0, .int .i64 0, .int .i64 0, .int .i64 0, .int .i64 0] 75)).alloc (.cells #[.int .i64 d0, .int .i64 d1, .int .i64 d2, .int .i64 d3, .int .i64 cur, .int .i64 0, .int .i64 0, .int .i64 0] 75)) (w.heap.size + 1 + 1) (by simp) s pos c hlt hcu hc
          have hs : (r == 58) = false := by rw [beq_eq_false_iff_ne]; omega
          have ho := high_bad r 16 rlo
          obtain ⟨d, hd⟩ : ∃ d, d = dgv r := ⟨_, rfl⟩
          have Hd : Hid (d = dgv r) := hd
          have HO : Hid (dgk r 16 = false) := ho
          have Hs : Hid (¬ (c.toNat : Int) = 58) := by show ¬ _; omega
          have Hb : Hid (dgk c.toNat 16 = false) := high_bad _ _ (by omega)
          clear hd ho hc hcu
          go_wp2_with fail
          refine (digit_any r 16 (by omega) (by omega) (by omega) _).mono ?_
          rw [← Hd.out, HO.out]
          rintro e w2 ⟨rfl, rfl⟩
          go_wp2_with fail
          refine bodyPost_ret (v := .tuple #[.agg #[.int .i64 d0, .int .i64 d1, .int .i64 d2, .int .i64 d3, .int .i64 cur, .int .i64 0, .int .i64 0, .int .i64 0], .int .i64 0, .bool false]) (by simp [results, Tryz.results63, go_sem]) rfl ⟨Or.inr ⟨d0, d1, d2, d3, cur, 0, 0, 0, rfl, ?_⟩, ((((Below.refl _ w).alloc (Nat.le_refl _) _).alloc (by simp) _).alloc (by simp; omega) _)⟩
          rw [← HR.out, HD.out]
          exact rn_bad Hs.out Hb.out
      · have hnx := nxt_endV ((w.alloc (.cells #[.int .i64 0, .int .i64 0, .int .i64 0, .int .i64 0, .int .i64 0, .int .i64 0, .int .i64 0, .int .i64 0] 75)).alloc (.cells #[.int .i64 d0, .int .i64 d1, .int .i64 d2, .int .i64 d3, .int .i64 cur, .int .i64 0, .int .i64 0, .int .i64 0] 75)) (w.heap.size + 1 + 1) (by simp) s pos hlt
        go_wp2_with fail
        refine bodyPost_ret (v := .tuple #[.agg #[.int .i64 d0, .int .i64 d1, .int .i64 d2, .int .i64 d3, .int .i64 cur, .int .i64 0, .int .i64 0, .int .i64 0], .int .i64 5, .bool true]) (by simp [results, Tryz.results63, go_sem]) rfl ⟨Or.inl ⟨d0, d1, d2, d3, cur, 0, 0, 0, 5, rfl, by omega, by omega, ?_⟩, ((((Below.refl _ w).alloc (Nat.le_refl _) _).alloc (by simp) _).alloc (by simp; omega) _)⟩
        rw [← HR.out, List.drop_eq_nil_of_le (by simp; omega)]
        rfl
    · by_cases hlt : pos < s.size
      · obtain ⟨c, hcu, hdr⟩ := at_pos s pos hlt
        have HD : Hid (s.data.toList.drop pos = c :: s.data.toList.drop (pos + 1)) := hdr
        clear hdr
        by_cases hc : c.toNat < 128
        · have hnx := nxt_asciiV ((w.alloc (.cells #[.int .i64 0, .int .i64 0, .int .i64 0, .int .i64 0, .int .i64 0, .int .i64 0, .int .i64 0, .int .i64 0] 75)).alloc (.cells #[.int .i64 d0, .int .i64 d1, .int .i64 d2, .int .i64 d3, .int .i64 d4, .int .i64 cur, .int .i64 0, .int .i64 0] 75)) (w.heap.size + 1 + 1) (by simp) s pos c hlt hcu hc
          obtain ⟨r, hr⟩ : ∃ r : Int, r = (c.toNat : Int) := ⟨_, rfl⟩
          rw [← hr] at hnx
          have rb : 0 ≤ r ∧ r < 128 := by omega
          have Hr : Hid (r = (c.toNat : Int)) := hr
          clear hr hc hcu
          cases hs : (r == 58)
          · have Hs : Hid (¬ (c.toNat : Int) = 58) := by show ¬ _; rw [← Hr.out]; simpa using hs
            obtain ⟨d, hd⟩ : ∃ d, d = dgv r := ⟨_, rfl⟩
            have db := dgv_bd r
            rw [← hd] at db
            have Hd : Hid (d = dgv r) := hd
            clear hd
            cases ho : dgk r 16
            · have HO : Hid (dgk r 16 = false) := ho
              clear ho
              go_wp2_with fail
              refine (digit_any r 16 (by omega) (by omega) (by omega) _).mono ?_
              rw [← Hd.out, HO.out]
              rintro e w2 ⟨rfl, rfl⟩
              go_wp2_with fail
              refine bodyPost_ret (v := .tuple #[.agg #[.int .i64 d0, .int .i64 d1, .int .i64 d2, .int .i64 d3, .int .i64 d4, .int .i64 cur, .int .i64 0, .int .i64 0], .int .i64 0, .bool false]) (by simp [results, Tryz.results63, go_sem]) rfl ⟨Or.inr ⟨d0, d1, d2, d3, d4, cur, 0, 0, rfl, ?_⟩, ((((Below.refl _ w).alloc (Nat.le_refl _) _).alloc (by simp) _).alloc (by simp; omega) _)⟩
              rw [← HR.out, HD.out]
              exact rn_bad Hs.out (by rw [← Hr.out]; exact HO.out)
            · have dp : 0 ≤ d := by have := Hd.out; simp [dgk] at ho; omega
              have HO : Hid (dgk r 16 = true) := ho
              clear ho
              by_cases hcu0 : cur < 0
              · have hx := rn_dig (most := 65535) (r := s.data.toList.drop (pos + 1)) (done := [d0, d1, d2, d3, d4]) (cur := cur) Hs.out (by rw [← Hr.out]; exact HO.out)
                rw [← Hr.out, ← Hd.out, if_pos hcu0, Int.zero_mul, Int.zero_add, if_neg (by omega)] at hx
                have HX := hid' hx
                clear hx
                go_wp2_with fail
                refine (digit_any r 16 (by omega) (by omega) (by omega) _).mono ?_
                rw [← Hd.out, HO.out]
                rintro e w2 ⟨rfl, rfl⟩
                go_wp2_with fail
                refine ⟨Or.inr (Or.inr (Or.inr (Or.inr (Or.inr (Or.inl ⟨rfl, d0, d1, d2, d3, d4, d, pos + 1, by omega, by omega, by omega, rfl, ?_⟩))))), ?_⟩
                · show _ = _
                  rw [← HR.out, HD.out, HX.out]
                · exact meas _ _ _ _ _ (by simp) hlt
              · have hx := rn_dig (most := 65535) (r := s.data.toList.drop (pos + 1)) (done := [d0, d1, d2, d3, d4]) (cur := cur) Hs.out (by rw [← Hr.out]; exact HO.out)
                rw [← Hr.out, ← Hd.out, if_neg hcu0] at hx
                by_cases hm : 65535 < cur * 16 + d
                · rw [if_pos hm] at hx
                  have HX := hid' hx
                  clear hx
                  go_wp2_with fail
                  refine (digit_any r 16 (by omega) (by omega) (by omega) _).mono ?_
                  rw [← Hd.out, HO.out]
                  rintro e w2 ⟨rfl, rfl⟩
                  go_wp2_with fail
                  refine bodyPost_ret (v := .tuple #[.agg #[.int .i64 d0, .int .i64 d1, .int .i64 d2, .int .i64 d3, .int .i64 d4, .int .i64 (cur * 16 + d), .int .i64 0, .int .i64 0], .int .i64 0, .bool false]) (by simp [results, Tryz.results63, go_sem]) rfl ⟨Or.inr ⟨d0, d1, d2, d3, d4, (cur * 16 + d), 0, 0, rfl, ?_⟩, ((((Below.refl _ w).alloc (Nat.le_refl _) _).alloc (by simp) _).alloc (by simp; omega) _)⟩
                  rw [← HR.out, HD.out]
                  exact HX.out
                · rw [if_neg hm] at hx
                  have HX := hid' hx
                  clear hx
                  go_wp2_with fail
                  refine (digit_any r 16 (by omega) (by omega) (by omega) _).mono ?_
                  rw [← Hd.out, HO.out]
                  rintro e w2 ⟨rfl, rfl⟩
                  go_wp2_with fail
                  refine ⟨Or.inr (Or.inr (Or.inr (Or.inr (Or.inr (Or.inl ⟨rfl, d0, d1, d2, d3, d4, cur * 16 + d, pos + 1, by omega, by omega, by omega, rfl, ?_⟩))))), ?_⟩
                  · show _ = _
                    rw [← HR.out, HD.out, HX.out]
                  · exact meas _ _ _ _ _ (by simp) hlt
          · have Hs : Hid ((c.toNat : Int) = 58) := by show _ = _; rw [← Hr.out]; simpa using hs
            go_wp2_with fail
            refine ⟨Or.inr (Or.inr (Or.inr (Or.inr (Or.inr (Or.inr (Or.inl ⟨rfl, d0, d1, d2, d3, d4, cur, -1, pos + 1, by omega, by omega, by omega, rfl, ?_⟩)))))), ?_⟩
            · show _ = _
              rw [← HR.out, HD.out, rn_sep Hs.out, if_neg (by simp)]; rfl
            · exact meas _ _ _ _ _ (by simp) hlt
        · obtain ⟨r, q, rlo, rhi, hnx⟩ := nxt_highV ((w.alloc (.cells #[.int .i64 0, .int .i64 0, .int .i64 0, .int .i64 0, .int .i64 0, .int .i64 0, .int .i64 0, .int .i64 0] 75)).alloc (.cells #[.int .i64 d0, .int .i64 d1, .int .i64 d2, .int .i64 d3, .int .i64 d4, .int .i64 cur, .int .i64 0, .int .i64 0] 75)) (w.heap.size + 1 + 1) (by simp) s pos c hlt hcu hc
          have hs : (r == 58) = false := by rw [beq_eq_false_iff_ne]; omega
          have ho := high_bad r 16 rlo
          obtain ⟨d, hd⟩ : ∃ d, d = dgv r := ⟨_, rfl⟩
          have Hd : Hid (d = dgv r) := hd
          have HO : Hid (dgk r 16 = false) := ho
          have Hs : Hid (¬ (c.toNat : Int) = 58) := by show ¬ _; omega
          have Hb : Hid (dgk c.toNat 16 = false) := high_bad _ _ (by omega)
          clear hd ho hc hcu
          go_wp2_with fail
          refine (digit_any r 16 (by omega) (by omega) (by omega) _).mono ?_
          rw [← Hd.out, HO.out]
          rintro e w2 ⟨rfl, rfl⟩
          go_wp2_with fail
          refine bodyPost_ret (v := .tuple #[.agg #[.int .i64 d0, .int .i64 d1, .int .i64 d2, .int .i64 d3, .int .i64 d4, .int .i64 cur, .int .i64 0, .int .i64 0], .int .i64 0, .bool false]) (by simp [results, Tryz.results63, go_sem]) rfl ⟨Or.inr ⟨d0, d1, d2, d3, d4, cur, 0, 0, rfl, ?_⟩, ((((Below.refl _ w).alloc (Nat.le_refl _) _).alloc (by simp) _).alloc (by simp; omega) _)⟩
          rw [← HR.out, HD.out]
          exact rn_bad Hs.out Hb.out
      · have hnx := nxt_endV ((w.alloc (.cells #[.int .i64 0, .int .i64 0, .int .i64 0, .int .i64 0, .int .i64 0, .int .i64 0, .int .i64 0, .int .i64 0] 75)).alloc (.cells #[.int .i64 d0, .int .i64 d1, .int .i64 d2, .int .i64 d3, .int .i64 d4, .int .i64 cur, .int .i64 0, .int .i64 0] 75)) (w.heap.size + 1 + 1) (by simp) s pos hlt
        go_wp2_with fail
        refine bodyPost_ret (v := .tuple #[.agg #[.int .i64 d0, .int .i64 d1, .int .i64 d2, .int .i64 d3, .int .i64 d4, .int .i64 cur, .int .i64 0, .int .i64 0], .int .i64 6, .bool true]) (by simp [results, Tryz.results63, go_sem]) rfl ⟨Or.inl ⟨d0, d1, d2, d3, d4, cur, 0, 0, 6, rfl, by omega, by omega, ?_⟩, ((((Below.refl _ w).alloc (Nat.le_refl _) _).alloc (by simp) _).alloc (by simp; omega) _)⟩
        rw [← HR.out, List.drop_eq_nil_of_le (by simp; omega)]
        rfl
    · by_cases hlt : pos < s.size
      · obtain ⟨c, hcu, hdr⟩ := at_pos s pos hlt
        have HD : Hid (s.data.toList.drop pos = c :: s.data.toList.drop (pos + 1)) := hdr
        clear hdr
        by_cases hc : c.toNat < 128
        · have hnx := nxt_asciiV ((w.alloc (.cells #[.int .i64 0, .int .i64 0, .int .i64 0, .int .i64 0, .int .i64 0, .int .i64 0, .int .i64 0, .int .i64 0] 75)).alloc (.cells #[.int .i64 d0, .int .i64 d1, .int .i64 d2, .int .i64 d3, .int .i64 d4, .int .i64 d5, .int .i64 cur, .int .i64 0] 75)) (w.heap.size + 1 + 1) (by simp) s pos c hlt hcu hc
          obtain ⟨r, hr⟩ : ∃ r : Int, r = (c.toNat : Int) := ⟨_, rfl⟩
          rw [← hr] at hnx
          have rb : 0 ≤ r ∧ r < 128 := by omega
          have Hr : Hid (r = (c.toNat : Int)) := hr
          clear hr hc hcu
          cases hs : (r == 58)
          · have Hs : Hid (¬ (c.toNat : Int) = 58) := by show ¬ _; rw [← Hr.out]; simpa using hs
            obtain ⟨d, hd⟩ : ∃ d, d = dgv r := ⟨_, rfl⟩
            have db := dgv_bd r
            rw [← hd] at db
            have Hd : Hid (d = dgv r) := hd
            clear hd
            cases ho : dgk r 16
            · have HO : Hid (dgk r 16 = false) := ho
              clear ho
              go_wp2_with fail
              refine (digit_any r 16 (by omega) (by omega) (by omega) _).mono ?_
              rw [← Hd.out, HO.out]
              rintro e w2 ⟨rfl, rfl⟩
              go_wp2_with fail
              refine bodyPost_ret (v := .tuple #[.agg #[.int .i64 d0, .int .i64 d1, .int .i64 d2, .int .i64 d3, .int .i64 d4, .int .i64 d5, .int .i64 cur, .int .i64 0], .int .i64 0, .bool false]) (by simp [results, Tryz.results63, go_sem]) rfl ⟨Or.inr ⟨d0, d1, d2, d3, d4, d5, cur, 0, rfl, ?_⟩, ((((Below.refl _ w).alloc (Nat.le_refl _) _).alloc (by simp) _).alloc (by simp; omega) _)⟩
              rw [← HR.out, HD.out]
              exact rn_bad Hs.out (by rw [← Hr.out]; exact HO.out)
            · have dp : 0 ≤ d := by have := Hd.out; simp [dgk] at ho; omega
              have HO : Hid (dgk r 16 = true) := ho
              clear ho
              by_cases hcu0 : cur < 0
              · have hx := rn_dig (most := 65535) (r := s.data.toList.drop (pos + 1)) (done := [d0, d1, d2, d3, d4, d5]) (cur := cur) Hs.out (by rw [← Hr.out]; exact HO.out)
                rw [← Hr.out, ← Hd.out, if_pos hcu0, Int.zero_mul, Int.zero_add, if_neg (by omega)] at hx
                have HX := hid' hx
                clear hx
                go_wp2_with fail
                refine (digit_any r 16 (by omega) (by omega) (by omega) _).mono ?_
                rw [← Hd.out, HO.out]
                rintro e w2 ⟨rfl, rfl⟩
                go_wp2_with fail
                refine ⟨Or.inr (Or.inr (Or.inr (Or.inr (Or.inr (Or.inr (Or.inl ⟨rfl, d0, d1, d2, d3, d4, d5, d, pos + 1, by omega, by omega, by omega, rfl, ?_⟩)))))), ?_⟩
                · show _ = _
                  rw [← HR.out, HD.out, HX.out]
                · exact meas _ _ _ _ _ (by simp) hlt
              · have hx := rn_dig (most := 65535) (r := s.data.toList.drop (pos + 1)) (done := [d0, d1, d2, d3, d4, d5]) (cur := cur) Hs.out (by rw [← Hr.out]; exact HO.out)
                rw [← Hr.out, ← Hd.out, if_neg hcu0] at hx
                by_cases hm : 65535 < cur * 16 + d
                · rw [if_pos hm] at hx
                  have HX := hid' hx
                  clear hx
                  go_wp2_with fail
                  refine (digit_any r 16 (by omega) (by omega) (by omega) _).mono ?_
                  rw [← Hd.out, HO.out]
                  rintro e w2 ⟨rfl, rfl⟩
                  go_wp2_with fail
                  refine bodyPost_ret (v := .tuple #[.agg #[.int .i64 d0, .int .i64 d1, .int .i64 d2, .int .i64 d3, .int .i64 d4, .int .i64 d5, .int .i64 (cur * 16 + d), .int .i64 0], .int .i64 0, .bool false]) (by simp [results, Tryz.results63, go_sem]) rfl ⟨Or.inr ⟨d0, d1, d2, d3, d4, d5, (cur * 16 + d), 0, rfl, ?_⟩, ((((Below.refl _ w).alloc (Nat.le_refl _) _).alloc (by simp) _).alloc (by simp; omega) _)⟩
                  rw [← HR.out, HD.out]
                  exact HX.out
                · rw [if_neg hm] at hx
                  have HX := hid' hx
                  clear hx
                  go_wp2_with fail
                  refine (digit_any r 16 (by omega) (by omega) (by omega) _).mono ?_
                  rw [← Hd.out, HO.out]
                  rintro e w2 ⟨rfl, rfl⟩
                  go_wp2_with fail
                  refine ⟨Or.inr (Or.inr (Or.inr (Or.inr (Or.inr (Or.inr (Or.inl ⟨rfl, d0, d1, d2, d3, d4, d5, cur * 16 + d, pos + 1, by omega, by omega, by omega, rfl, ?_⟩)))))), ?_⟩
                  · show _ = _
                    rw [← HR.out, HD.out, HX.out]
                  · exact meas _ _ _ _ _ (by simp) hlt
          · have Hs : Hid ((c.toNat : Int) = 58) := by show _ = _; rw [← Hr.out]; simpa using hs
            go_wp2_with fail
            refine ⟨Or.inr (Or.inr (Or.inr (Or.inr (Or.inr (Or.inr (Or.inr (⟨rfl, d0, d1, d2, d3, d4, d5, cur, -1, pos + 1, by omega, by omega, by omega, rfl, ?_⟩))))))), ?_⟩
            · show _ = _
              rw [← HR.out, HD.out, rn_sep Hs.out, if_neg (by simp)]; rfl
            · exact meas _ _ _ _ _ (by simp) hlt
        · obtain ⟨r, q, rlo, rhi, hnx⟩ := nxt_highV ((w.alloc (.cells #[.int .i64 0, .int .i64 0, .int .i64 0, .int .i64 0, .int .i64 0, .int .i64 0, .int .i64 0, .int .i64 0] 75)).alloc (.cells #[.int .i64 d0, .int .i64 d1, .int .i64 d2, .int .i64 d3, .int .i64 d4, .int .i64 d5, .int .i64 cur, .int .i64 0] 75)) (w.heap.size + 1 + 1) (by simp) s pos c hlt hcu hc
          have hs : (r == 58) = false := by rw [beq_eq_false_iff_ne]; omega
          have ho := high_bad r 16 rlo
          obtain ⟨d, hd⟩ : ∃ d, d = dgv r := ⟨_, rfl⟩
          have Hd : Hid (d = dgv r) := hd
          have HO : Hid (dgk r 16 = false) := ho
          have Hs : Hid (¬ (c.toNat : Int) = 58) := by show ¬ _; omega
          have Hb : Hid (dgk c.toNat 16 = false) := high_bad _ _ (by omega)
          clear hd ho hc hcu
          go_wp2_with fail
          refine (digit_any r 16 (by omega) (by omega) (by omega) _).mono ?_
          rw [← Hd.out, HO.out]
          rintro e w2 ⟨rfl, rfl⟩
          go_wp2_with fail
          refine bodyPost_ret (v := .tuple #[.agg #[.int .i64 d0, .int .i64 d1, .int .i64 d2, .int .i64 d3, .int .i64 d4, .int .i64 d5, .int .i64 cur, .int .i64 0], .int .i64 0, .bool false]) (by simp [results, Tryz.results63, go_sem]) rfl ⟨Or.inr ⟨d0, d1, d2, d3, d4, d5, cur, 0, rfl, ?_⟩, ((((Below.refl _ w).alloc (Nat.le_refl _) _).alloc (by simp) _).alloc (by simp; omega) _)⟩
          rw [← HR.out, HD.out]
          exact rn_bad Hs.out Hb.out
      · have hnx := nxt_endV ((w.alloc (.cells #[.int .i64 0, .int .i64 0, .int .i64 0, .int .i64 0, .int .i64 0, .int .i64 0, .int .i64 0, .int .i64 0] 75)).alloc (.cells #[.int .i64 d0, .int .i64 d1, .int .i64 d2, .int .i64 d3, .int .i64 d4, .int .i64 d5, .int .i64 cur, .int .i64 0] 75)) (w.heap.size + 1 + 1) (by simp) s pos hlt
        go_wp2_with fail
        refine bodyPost_ret (v := .tuple #[.agg #[.int .i64 d0, .int .i64 d1, .int .i64 d2, .int .i64 d3, .int .i64 d4, .int .i64 d5, .int .i64 cur, .int .i64 0], .int .i64 7, .bool true]) (by simp [results, Tryz.results63, go_sem]) rfl ⟨Or.inl ⟨d0, d1, d2, d3, d4, d5, cur, 0, 7, rfl, by omega, by omega, ?_⟩, ((((Below.refl _ w).alloc (Nat.le_refl _) _).alloc (by simp) _).alloc (by simp; omega) _)⟩
        rw [← HR.out, List.drop_eq_nil_of_le (by simp; omega)]
        rfl
    · by_cases hlt : pos < s.size
      · obtain ⟨c, hcu, hdr⟩ := at_pos s pos hlt
        have HD : Hid (s.data.toList.drop pos = c :: s.data.toList.drop (pos + 1)) := hdr
        clear hdr
        by_cases hc : c.toNat < 128
        · have hnx := nxt_asciiV ((w.alloc (.cells #[.int .i64 0, .int .i64 0, .int .i64 0, .int .i64 0, .int .i64 0, .int .i64 0, .int .i64 0, .int .i64 0] 75)).alloc (.cells #[.int .i64 d0, .int .i64 d1, .int .i64 d2, .int .i64 d3, .int .i64 d4, .int .i64 d5, .int .i64 d6, .int .i64 cur] 75)) (w.heap.size + 1 + 1) (by simp) s pos c hlt hcu hc
          obtain ⟨r, hr⟩ : ∃ r : Int, r = (c.toNat : Int) := ⟨_, rfl⟩
          rw [← hr] at hnx
          have rb : 0 ≤ r ∧ r < 128 := by omega
          have Hr : Hid (r = (c.toNat : Int)) := hr
          clear hr hc hcu
          cases hs : (r == 58)
          · have Hs : Hid (¬ (c.toNat : Int) = 58) := by show ¬ _; rw [← Hr.out]; simpa using hs
            obtain ⟨d, hd⟩ : ∃ d, d = dgv r := ⟨_, rfl⟩
            have db := dgv_bd r
            rw [← hd] at db
            have Hd : Hid (d = dgv r) := hd
            clear hd
            cases ho : dgk r 16
            · have HO : Hid (dgk r 16 = false) := ho
              clear ho
              go_wp2_with fail
              refine (digit_any r 16 (by omega) (by omega) (by omega) _).mono ?_
              rw [← Hd.out, HO.out]
              rintro e w2 ⟨rfl, rfl⟩
              go_wp2_with fail
              refine bodyPost_ret (v := .tuple #[.agg #[.int .i64 d0, .int .i64 d1, .int .i64 d2, .int .i64 d3, .int .i64 d4, .int .i64 d5, .int .i64 d6, .int .i64 cur], .int .i64 0, .bool false]) (by simp [results, Tryz.results63, go_sem]) rfl ⟨Or.inr ⟨d0, d1, d2, d3, d4, d5, d6, cur, rfl, ?_⟩, ((((Below.refl _ w).alloc (Nat.le_refl _) _).alloc (by simp) _).alloc (by simp; omega) _)⟩
              rw [← HR.out, HD.out]
              exact rn_bad Hs.out (by rw [← Hr.out]; exact HO.out)
            · have dp : 0 ≤ d := by have := Hd.out; simp [dgk] at ho; omega
              have HO : Hid (dgk r 16 = true) := ho
              clear ho
              by_cases hcu0 : cur < 0
              · have hx := rn_dig (most := 65535) (r := s.data.toList.drop (pos + 1)) (done := [d0, d1, d2, d3, d4, d5, d6]) (cur := cur) Hs.out (by rw [← Hr.out]; exact HO.out)
                rw [← Hr.out, ← Hd.out, if_pos hcu0, Int.zero_mul, Int.zero_add, if_neg (by omega)] at hx
                have HX := hid' hx
                clear hx
                go_wp2_with fail
                refine (digit_any r 16 (by omega) (by omega) (by omega) _).mono ?_
                rw [← Hd.out, HO.out]
                rintro e w2 ⟨rfl, rfl⟩
                go_wp2_with fail
                refine ⟨Or.inr (Or.inr (Or.inr (Or.inr (Or.inr (Or.inr (Or.inr (⟨rfl, d0, d1, d2, d3, d4, d5, d6, d, pos + 1, by omega, by omega, by omega, rfl, ?_⟩))))))), ?_⟩
                · show _ = _
                  rw [← HR.out, HD.out, HX.out]
                · exact meas _ _ _ _ _ (by simp) hlt
              · have hx := rn_dig (most := 65535) (r := s.data.toList.drop (pos + 1)) (done := [d0, d1, d2, d3, d4, d5, d6]) (cur := cur) Hs.out (by rw [← Hr.out]; exact HO.out)
                rw [← Hr.out, ← Hd.out, if_neg hcu0] at hx
                by_cases hm : 65535 < cur * 16 + d
                · rw [if_pos hm] at hx
                  have HX := hid' hx
                  clear hx
                  go_wp2_with fail
                  refine (digit_any r 16 (by omega) (by omega) (by omega) _).mono ?_
                  rw [← Hd.out, HO.out]
                  rintro e w2 ⟨rfl, rfl⟩
                  go_wp2_with fail
                  refine bodyPost_ret (v := .tuple #[.agg #[.int .i64 d0, .int .i64 d1, .int .i64 d2, .int .i64 d3, .int .i64 d4, .int .i64 d5, .int .i64 d6, .int .i64 (cur * 16 + d)], .int .i64 0, .bool false]) (by simp [results, Tryz.results63, go_sem]) rfl ⟨Or.inr ⟨d0, d1, d2, d3, d4, d5, d6, (cur * 16 + d), rfl, ?_⟩, ((((Below.refl _ w).alloc (Nat.le_refl _) _).alloc (by simp) _).alloc (by simp; omega) _)⟩
                  rw [← HR.out, HD.out]
                  exact HX.out
                · rw [if_neg hm] at hx
                  have HX := hid' hx
                  clear hx
                  go_wp2_with fail
                  refine (digit_any r 16 (by omega) (by omega) (by omega) _).mono ?_
                  rw [← Hd.out, HO.out]
                  rintro e w2 ⟨rfl, rfl⟩
                  go_wp2_with fail
                  refine ⟨Or.inr (Or.inr (Or.inr (Or.inr (Or.inr (Or.inr (Or.inr (⟨rfl, d0, d1, d2, d3, d4, d5, d6, cur * 16 + d, pos + 1, by omega, by omega, by omega, rfl, ?_⟩))))))), ?_⟩
                  · show _ = _
                    rw [← HR.out, HD.out, HX.out]
                  · exact meas _ _ _ _ _ (by simp) hlt
          · have Hs : Hid ((c.toNat : Int) = 58) := by show _ = _; rw [← Hr.out]; simpa using hs
            go_wp2_with fail
            refine bodyPost_ret (v := .tuple #[.agg #[.int .i64 d0, .int .i64 d1, .int .i64 d2, .int .i64 d3, .int .i64 d4, .int .i64 d5, .int .i64 d6, .int .i64 cur], .int .i64 0, .bool false]) (by simp [results, Tryz.results63, go_sem]) rfl ⟨Or.inr ⟨d0, d1, d2, d3, d4, d5, d6, cur, rfl, ?_⟩, ((((Below.refl _ w).alloc (Nat.le_refl _) _).alloc (by simp) _).alloc (by simp; omega) _)⟩
            rw [← HR.out, HD.out]
            exact (rn_sep Hs.out).trans (if_pos rfl)
        · obtain ⟨r, q, rlo, rhi, hnx⟩ := nxt_highV ((w.alloc (.cells #[.int .i64 0, .int .i64 0, .int .i64 0, .int .i64 0, .int .i64 0, .int .i64 0, .int .i64 0, .int .i64 0] 75)).alloc (.cells #[.int .i64 d0, .int .i64 d1, .int .i64 d2, .int .i64 d3, .int .i64 d4, .int .i64 d5, .int .i64 d6, .int .i64 cur] 75)) (w.heap.size + 1 + 1) (by simp) s pos c hlt hcu hc
          have hs : (r == 58) = false := by rw [beq_eq_false_iff_ne]; omega
          have ho := high_bad r 16 rlo
          obtain ⟨d, hd⟩ : ∃ d, d = dgv r := ⟨_, rfl⟩
          have Hd : Hid (d = dgv r) := hd
          have HO : Hid (dgk r 16 = false) := ho
          have Hs : Hid (¬ (c.toNat : Int) = 58) := by show ¬ _; omega
          have Hb : Hid (dgk c.toNat 16 = false) := high_bad _ _ (by omega)
          clear hd ho hc hcu
          go_wp2_with fail
          refine (digit_any r 16 (by omega) (by omega) (by omega) _).mono ?_
          rw [← Hd.out, HO.out]
          rintro e w2 ⟨rfl, rfl⟩
          go_wp2_with fail
          refine bodyPost_ret (v := .tuple #[.agg #[.int .i64 d0, .int .i64 d1, .int .i64 d2, .int .i64 d3, .int .i64 d4, .int .i64 d5, .int .i64 d6, .int .i64 cur], .int .i64 0, .bool false]) (by simp [results, Tryz.results63, go_sem]) rfl ⟨Or.inr ⟨d0, d1, d2, d3, d4, d5, d6, cur, rfl, ?_⟩, ((((Below.refl _ w).alloc (Nat.le_refl _) _).alloc (by simp) _).alloc (by simp; omega) _)⟩
          rw [← HR.out, HD.out]
          exact rn_bad Hs.out Hb.out
      · have hnx := nxt_endV ((w.alloc (.cells #[.int .i64 0, .int .i64 0, .int .i64 0, .int .i64 0, .int .i64 0, .int .i64 0, .int .i64 0, .int .i64 0] 75)).alloc (.cells #[.int .i64 d0, .int .i64 d1, .int .i64 d2, .int .i64 d3, .int .i64 d4, .int .i64 d5, .int .i64 d6, .int .i64 cur] 75)) (w.heap.size + 1 + 1) (by simp) s pos hlt
        go_wp2_with fail
        refine bodyPost_ret (v := .tuple #[.agg #[.int .i64 d0, .int .i64 d1, .int .i64 d2, .int .i64 d3, .int .i64 d4, .int .i64 d5, .int .i64 d6, .int .i64 cur], .int .i64 8, .bool true]) (by simp [results, Tryz.results63, go_sem]) rfl ⟨Or.inl ⟨d0, d1, d2, d3, d4, d5, d6, cur, 8, rfl, by omega, by omega, ?_⟩, ((((Below.refl _ w).alloc (Nat.le_refl _) _).alloc (by simp) _).alloc (by simp; omega) _)⟩
        rw [← HR.out, List.drop_eq_nil_of_le (by simp; omega)]
        rfl

end Go.Proofs.YtadhapggcifldaaGreatDoor
