/-
  For every pool, every row of prefixes and every number of bits the two FreeCounts answer alike, and leave the arguments as they were, so the exact law of FreeCount returns true; no condition.
-/
import Derived.Test.YtamocbkamjnonaaLRoomC
import Derived.Test.YtamocbkamjnonaaSCnt
import Derived.Test.YtamocbkamjnonaaPOpen
import Derived.ProofKit
import Derived.Lib.SmallJoins
namespace Go.Proofs.Ytamocbkamjnonaa
open Go.ChangeShapes Go.WideShapes Go.ChangeAt Go.RowKit Go.Joins Go.Deep

theorem pre_list : ∀ ps : List Pf, ps.all Pf.pok = true → ∃ xs : List Sp, (∀ t ∈ xs, t.ok) ∧ xs.map Sp.pre = ps
  | [], _ => ⟨[], (fun _ h => by cases h), rfl⟩
  | p :: t, h => by
      rw [List.all_cons, Bool.and_eq_true] at h
      obtain ⟨x, hx, rfl⟩ := Sp.of_pok (p := p) h.1
      obtain ⟨xs, hxs, rfl⟩ := pre_list t h.2
      refine ⟨x :: xs, fun u hu => ?_, rfl⟩
      rcases List.mem_cons.1 hu with rfl | hu
      · exact hx
      · exact hxs u hu

set_option maxRecDepth 10000 in
set_option maxHeartbeats 1000000 in
theorem lawFreeCount (p : Pf) (a : Option Addr) (n cap : Nat) (ps : List Pf) (bits : Int) (w : World) (hB : Row w a ps) (hn : n = ps.length) (h9 : n ≤ 9223372036854775807) :
    Calls Try.prog 6 #[.agg #[.bool p.s, .int .i64 p.H.toInt, .int .i64 p.L.toInt, .int .i64 p.b], .slice a n cap, .int .i64 bits] w fun e w' => e = .returned (.bool true) ∧ Below w.heap.size w w' := by
  by_cases hl : n ≤ 1048576
  · cases hr : (p.pok && rightP ps)
    · have ha : askB p ps bits = false := by unfold askB; rw [hr, Bool.false_and]
      refine lawFreeCount_core p a n cap ps bits w hB hn hl 0 (fun g wx h => ?_) (fun g wx h => ?_)
      · subst hn; exact sCnt_no p (some ⟨g, 0, none⟩) ps.length ps bits wx h hl ha
      · subst hn
        have hP := part_gives p (some ⟨g, 0, none⟩) ps.length ps.length bits wx [] (left_no p (some ⟨g, 0, none⟩) ps.length ps wx h hl hr)
        rw [show partL p.s bits [] = [] by unfold partL; split <;> rfl] at hP
        exact iCnt p (some ⟨g, 0, none⟩) ps.length ps.length bits wx [] (fun z h => by cases h) hP
    · rw [Bool.and_eq_true] at hr
      obtain ⟨x, hx, rfl⟩ := Sp.of_pok (p := p) hr.1
      have h2 := hr.2
      have hr2 := hr.2
      unfold rightP at h2
      rw [Bool.and_eq_true, decide_eq_true_eq] at h2
      obtain ⟨xs, hxs, rfl⟩ := pre_list ps h2.1
      have hl3 : xs.length ≤ 300 := by have := h2.2; rw [List.length_map] at this; exact this
      rw [List.length_map] at hn
      have hi : ∀ (g : Nat) (wx : World), Row wx (some ⟨g, 0, none⟩) (xs.map Sp.pre) → Calls Try.prog 23 #[.agg #[.bool x.pre.s, .int .i64 x.pre.H.toInt, .int .i64 x.pre.L.toInt, .int .i64 x.pre.b], .slice (some ⟨g, 0, none⟩) n n, .int .i64 bits] wx fun e w' => e = .returned (.int .i64 (cnt bits (partL x.pre.s bits (leftM x.n x xs)))) ∧ Below wx.heap.size wx w' := fun g wx h => by
        subst hn
        exact iCnt x.pre (some ⟨g, 0, none⟩) xs.length xs.length bits wx _ (part_bd hx) (part_gives x.pre (some ⟨g, 0, none⟩) xs.length xs.length bits wx _ (left_yes x hx (some ⟨g, 0, none⟩) xs.length xs hxs wx h hl3))
      cases ha : askB x.pre (xs.map Sp.pre) bits
      · rw [part_not hx hr2 ha] at hi
        refine lawFreeCount_core x.pre a n cap (xs.map Sp.pre) bits w hB (by rw [List.length_map]; exact hn) hl 0 (fun g wx h => ?_) hi
        have := sCnt_no x.pre (some ⟨g, 0, none⟩) (xs.map Sp.pre).length (xs.map Sp.pre) bits wx h (by rw [List.length_map]; omega) ha
        rw [List.length_map, ← hn] at this
        exact this
      · rw [part_yes ha] at hi
        refine lawFreeCount_core x.pre a n cap (xs.map Sp.pre) bits w hB (by rw [List.length_map]; exact hn) hl (cnt bits ((leftM x.n x xs).filter (roomP bits))) (fun g wx h => ?_) hi
        subst hn
        exact sCnt_yes x hx (some ⟨g, 0, none⟩) xs.length xs hxs bits wx h hl3 ha
  · clear hB hn
    have HZ := hidP (szPrefixS_big a n cap (by omega) h9)
    go_enter Try.func6, Try.ntmps6
    go_wp2_with fail
    refine (HZ.out _).mono ?_
    rintro e w1 ⟨rfl, rfl⟩
    go_wp2_with fail
    go_ret
    exact ⟨rfl, (Below.refl _ _).alloc (Nat.le_refl _) _⟩

set_option maxRecDepth 100000 in
theorem lFreeCount_lifted (os : Os) (started : os.Started) (H : Type) (enc : TypeId × Value → H) :
    ReturnsInHanded {} Try.checked os 6 .any (Rows.fnExactFreeCountSpec.pre6 enc Try.prog Try.f6 Rows.fnExactFreeCountRow.domain false) (Rows.fnExactFreeCountSpec.post enc Try.prog Try.f6 false true false false) := by
  refine returnsInHanded_of_change (C := Try.checked) Try.ownP started (by kernel_rfl) Try.func6
    (ChangeSpec.witness6 (enc := enc) (C := Try.checked) false ⟨#[], #[.agg #[.bool false, .int .i64 0, .int .i64 0, .int .i64 0], .slice none 0 0, .int .i64 0], []⟩ 8 (by kernel_rfl) (by kernel_rfl) (by kernel_rfl) (by kernel_rfl)) ?_
  intro W base args ds gs before hval0 hW _ _
  have hval : ∀ (j : Nat) t v, Try.f6.params[j]? = some t → args[j]? = some v → Value.okWide Try.prog W .any base t v := hval0
  have hW' := hW
  obtain ⟨p, q, hA0, hV, rfl, _, _⟩ := hW
  have hA : DataW.TrodAll enc Try.prog W 0 (fun _ => true) true Try.f6.params.toList args.toList ds p := hA0
  rw [Try.params6] at hA hval
  obtain ⟨v0, v1, v2, d0, d1, d2, p0, p1, p2, rfl, rfl, rfl, h0, h1, h2⟩ := trodAll_three hA
  obtain ⟨rfl, rfl⟩ := trodVars_none hV
  obtain ⟨j00, j01, j02, j03, y00, y01, y02, y03, m0, rfl, rfl, rfl, hy00, hy01, hy02, hy03⟩ := open_pfx Try.underlying33 Try.underlying31 (by kernel_rfl) rfl (by kernel_rfl) rfl (by kernel_rfl) Try.cellsPP (hval 0 33 v0 rfl rfl) h0
  obtain ⟨s0, e00, rfl⟩ := DataW.trod_bool Try.underlying4 hy00
  obtain ⟨a0, e01, rfl, wa0⟩ := DataW.trod_int Try.underlying3 hy01
  obtain ⟨b0, e02, rfl, wb0⟩ := DataW.trod_int Try.underlying3 hy02
  obtain ⟨c0, e03, rfl, wc0⟩ := DataW.trod_int Try.underlying3 hy03
  simp at e00 e01 e02 e03
  subst e00 e01 e02 e03
  obtain ⟨a1, len1, cap1, rfl⟩ := okWide_slice Try.underlying22 (hval 1 22 v1 rfl rfl)
  obtain ⟨nb, rfl, rfl, rfl, wnb⟩ := open_int Try.underlying3 (hval 2 3 v2 rfl rfl) h2
  clear hA0 hval0
  simp only [List.append_nil, List.nil_append] at hW'
  have hlt : ∀ x ∈ p1, x.block < W.heap.size := fun x hx => by simpa using hW'.lt x hx
  have reads0 : ∀ (W' : World) (sp : Nat → Bool), DataW.Trod enc Try.prog W' 0 sp true 33 (.agg #[.bool s0, .int .i64 a0, .int .i64 b0, .int .i64 c0]) (.agg [.agg [.lit (.bool s0), .lit (.int .i64 a0), .lit (.int .i64 b0)], .lit (.int .i64 c0)]) [] := fun W' sp =>
    shut_pfx (y0 := (.lit (.bool s0), [])) (y1 := (.lit (.int .i64 a0), [])) (y2 := (.lit (.int .i64 b0), [])) (y3 := (.lit (.int .i64 c0), [])) Try.underlying33 Try.underlying31 (by kernel_rfl) rfl (by kernel_rfl) rfl (by kernel_rfl) Try.cellsPP ⟨1, by simp [DataW.trod, Try.underlying4]⟩ ⟨1, by simp [DataW.trod, Try.underlying3, wa0]⟩ ⟨1, by simp [DataW.trod, Try.underlying3, wb0]⟩ ⟨1, by simp [DataW.trod, Try.underlying3, wc0]⟩
  obtain ⟨ps, hlen, hmax, hB⟩ := row_open h1
  have law := lawFreeCount ⟨s0, BitVec.ofInt 64 a0, BitVec.ofInt 64 b0, c0⟩ a1 len1 cap1 ps nb W hB hlen.symm hmax
  change Calls Try.prog 6 #[.agg #[.bool s0, .int .i64 (BitVec.ofInt 64 a0).toInt, .int .i64 (BitVec.ofInt 64 b0).toInt, .int .i64 c0], .slice a1 len1 cap1, .int .i64 nb] W _ at law
  rw [wfP wa0, wfP wb0] at law
  refine law.mono fun e W' ⟨he, hb⟩ => ?_
  subst he
  exact ⟨_, rfl, ⟨_, _, _, [], [] ++ (p1 ++ []), [], hW', trodAll_mk1 (shut_bool Try.underlying4 true), trodAll_mk3 (reads0 _ _) (Below.trod Try.laidOutP (by kernel_rfl) (of_decide_eq_true (by kernel_rfl)) h1 hb hlt) (shut_int Try.underlying3 wnb), rfl, hb.frame _, fun h => by cases h⟩⟩

theorem lFreeCount_holds : Rows.FnExactFreeCountSaid :=
  OpenClaim.holds_of_wide 6 Try.f6 rfl rfl rfl rfl rfl rfl rfl ⟨rfl, rfl, rfl, rfl, rfl⟩ rfl rfl rfl rfl rfl (by kernel_rfl) Try.func6 (by kernel_rfl)
    (of_decide_eq_true (by kernel_rfl)) (by unfold Func.isWrapper; rw [if_neg (of_decide_eq_false (by kernel_rfl))]; exact ⟨rfl, rfl⟩)
    (fun os started H enc _ => lFreeCount_lifted os started H enc)

end Go.Proofs.Ytamocbkamjnonaa
