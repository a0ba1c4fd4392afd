/-
  For every block and every row of addresses the two FirstAddrs answer alike, and leave the arguments as they were, so the exact law of FirstAddr returns true; no condition.
-/
import Derived.Test.YtamocbkamjnonaaLRoomA
import Derived.Test.YtamocbkamjnonaaQFA
import Derived.Test.YtamocbkamjnonaaPOpen
import Derived.ProofKit
import Derived.Lib.SmallJoins
namespace Go.Proofs.Ytamocbkamjnonaa
open Go.ChangeShapes Go.WideShapes Go.ChangeAt Go.RowKit Go.Joins Go.Deep

set_option maxRecDepth 10000 in
set_option maxHeartbeats 1000000 in
theorem lawFirstAddr (p : Pf) (a : Option Addr) (n cap : Nat) (us : List Ad) (w : World) (hB : RowA w a us) (hn : n = us.length) (h9 : n ≤ 9223372036854775807) :
    Calls Try.prog 7 #[.agg #[.bool p.s, .int .i64 p.H.toInt, .int .i64 p.L.toInt, .int .i64 p.b], .slice a n cap] w fun e w' => e = .returned (.bool true) ∧ Below w.heap.size w w' := by
  by_cases hl : n ≤ 1048576
  · by_cases h3 : 300 < n
    · exact lawFirstAddr_core p a n cap us w hB hn hl ⟨false, 0, 0⟩ false (fun g wx _ => sFA_no p _ n n wx (by omega) (Or.inr h3)) (fun g wx _ => iFA_big p _ n n wx (by omega) h3)
    · cases hp : p.pok
      · refine lawFirstAddr_core p a n cap us w hB hn hl ⟨false, 0, 0⟩ false (fun g wx _ => sFA_no p _ n n wx (by omega) (Or.inl hp)) (fun g wx h => ?_)
        subst hn
        exact iFA_none p hp us (by omega) _ _ wx h
      · obtain ⟨x, hx, rfl⟩ := Sp.of_pok (p := p) hp
        subst hn
        obtain ⟨q, ok, hf, hi⟩ := iFA_yes x hx us (by omega)
        refine lawFirstAddr_core x.pre a us.length cap us w hB rfl hl q ok (fun g wx h => ?_) (fun g wx h => hi _ _ wx h)
        refine (sFA_yes x hx (some ⟨g, 0, none⟩) us.length us.length us rfl wx h (by omega)).mono ?_
        rintro e w' ⟨V, rfl, hV, hb⟩
        exact ⟨by rw [fans_one hV hf], hb⟩
  · clear hB hn
    have HZ := hidP (szAddrS_big a n cap (by omega) h9)
    go_enter Try.func7, Try.ntmps7
    go_wp2_with fail
    refine (HZ.out _).mono ?_
    rintro e w1 ⟨rfl, rfl⟩
    go_wp2_with fail
    go_ret
    exact ⟨rfl, (Below.refl _ _).alloc (Nat.le_refl _) _⟩

set_option maxRecDepth 100000 in
theorem lFirstAddr_lifted (os : Os) (started : os.Started) (H : Type) (enc : TypeId × Value → H) :
    ReturnsInHanded {} Try.checked os 7 .any (Rows.fnExactFirstAddrSpec.pre6 enc Try.prog Try.f7 Rows.fnExactFirstAddrRow.domain false) (Rows.fnExactFirstAddrSpec.post enc Try.prog Try.f7 false true false false) := by
  refine returnsInHanded_of_change (C := Try.checked) Try.ownP started (by kernel_rfl) Try.func7
    (ChangeSpec.witness6 (enc := enc) (C := Try.checked) false ⟨#[], #[.agg #[.bool false, .int .i64 0, .int .i64 0, .int .i64 0], .slice none 0 0], []⟩ 8 (by kernel_rfl) (by kernel_rfl) (by kernel_rfl) (by kernel_rfl)) ?_
  intro W base args ds gs before hval0 hW _ _
  have hval : ∀ (j : Nat) t v, Try.f7.params[j]? = some t → args[j]? = some v → Value.okWide Try.prog W .any base t v := hval0
  have hW' := hW
  obtain ⟨p, q, hA0, hV, rfl, _, _⟩ := hW
  have hA : DataW.TrodAll enc Try.prog W 0 (fun _ => true) true Try.f7.params.toList args.toList ds p := hA0
  rw [Try.params7] at hA hval
  obtain ⟨v0, v1, d0, d1, p0, p1, rfl, rfl, rfl, h0, h1⟩ := trodAll_two hA
  obtain ⟨rfl, rfl⟩ := trodVars_none hV
  obtain ⟨j00, j01, j02, j03, y00, y01, y02, y03, m0, rfl, rfl, rfl, hy00, hy01, hy02, hy03⟩ := open_pfx Try.underlying33 Try.underlying31 (by kernel_rfl) rfl (by kernel_rfl) rfl (by kernel_rfl) Try.cellsPP (hval 0 33 v0 rfl rfl) h0
  obtain ⟨s0, e00, rfl⟩ := DataW.trod_bool Try.underlying4 hy00
  obtain ⟨a0, e01, rfl, wa0⟩ := DataW.trod_int Try.underlying3 hy01
  obtain ⟨b0, e02, rfl, wb0⟩ := DataW.trod_int Try.underlying3 hy02
  obtain ⟨c0, e03, rfl, wc0⟩ := DataW.trod_int Try.underlying3 hy03
  simp at e00 e01 e02 e03
  subst e00 e01 e02 e03
  obtain ⟨a1, len1, cap1, rfl⟩ := okWide_slice Try.underlying45 (hval 1 45 v1 rfl rfl)
  clear hA0 hval0
  simp only [List.append_nil, List.nil_append] at hW'
  have hlt : ∀ x ∈ p1, x.block < W.heap.size := fun x hx => by simpa using hW'.lt x hx
  have reads0 : ∀ (W' : World) (sp : Nat → Bool), DataW.Trod enc Try.prog W' 0 sp true 33 (.agg #[.bool s0, .int .i64 a0, .int .i64 b0, .int .i64 c0]) (.agg [.agg [.lit (.bool s0), .lit (.int .i64 a0), .lit (.int .i64 b0)], .lit (.int .i64 c0)]) [] := fun W' sp =>
    shut_pfx (y0 := (.lit (.bool s0), [])) (y1 := (.lit (.int .i64 a0), [])) (y2 := (.lit (.int .i64 b0), [])) (y3 := (.lit (.int .i64 c0), [])) Try.underlying33 Try.underlying31 (by kernel_rfl) rfl (by kernel_rfl) rfl (by kernel_rfl) Try.cellsPP ⟨1, by simp [DataW.trod, Try.underlying4]⟩ ⟨1, by simp [DataW.trod, Try.underlying3, wa0]⟩ ⟨1, by simp [DataW.trod, Try.underlying3, wb0]⟩ ⟨1, by simp [DataW.trod, Try.underlying3, wc0]⟩
  obtain ⟨ps, hlen, hmax, hB⟩ := rowA_open h1
  have law := lawFirstAddr ⟨s0, BitVec.ofInt 64 a0, BitVec.ofInt 64 b0, c0⟩ a1 len1 cap1 ps W hB hlen.symm hmax
  change Calls Try.prog 7 #[.agg #[.bool s0, .int .i64 (BitVec.ofInt 64 a0).toInt, .int .i64 (BitVec.ofInt 64 b0).toInt, .int .i64 c0], .slice a1 len1 cap1] W _ at law
  rw [wfP wa0, wfP wb0] at law
  refine law.mono fun e W' ⟨he, hb⟩ => ?_
  subst he
  exact ⟨_, rfl, ⟨_, _, _, [], [] ++ p1, [], hW', trodAll_mk1 (shut_bool Try.underlying4 true), trodAll_mk2 (reads0 _ _) (Below.trod Try.laidOutP (by kernel_rfl) (of_decide_eq_true (by kernel_rfl)) h1 hb hlt), rfl, hb.frame _, fun h => by cases h⟩⟩

theorem lFirstAddr_holds : Rows.FnExactFirstAddrSaid :=
  OpenClaim.holds_of_wide 7 Try.f7 rfl rfl rfl rfl rfl rfl rfl ⟨rfl, rfl, rfl, rfl, rfl⟩ rfl rfl rfl rfl rfl (by kernel_rfl) Try.func7 (by kernel_rfl)
    (of_decide_eq_true (by kernel_rfl)) (by unfold Func.isWrapper; rw [if_neg (of_decide_eq_false (by kernel_rfl))]; exact ⟨rfl, rfl⟩)
    (fun os started H enc _ => lFirstAddr_lifted os started H enc)

end Go.Proofs.Ytamocbkamjnonaa
