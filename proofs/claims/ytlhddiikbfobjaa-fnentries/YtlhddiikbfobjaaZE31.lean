/-
  For every code the entries of the Keep that is drawn are as the law FnEntries asks; no condition.
-/
import Derived.Test.YtlhddiikbfobjaaZE29
import Derived.Test.YtlhddiikbfobjaaZE10
import Derived.Test.YtlhddiikbfobjaaZE13
import Derived.Test.YtlhddiikbfobjaaZE5
import Derived.Test.YtlhddiikbfobjaaRows
import Derived.Test.YtlhddiikbfobjaaZE30
import Derived.ProofKit
import Derived.OpenShut
import Derived.Lib.SmallJoins
import Derived.Deep.DeepHandedRow
namespace Go.Proofs.Ytlhddiikbfobjaa
open Go.ChangeShapes Go.WideShapes Go.ChangeAt Go.RowKit Go.Joins Go.Deep

/-- The terms from a base on. -/
def tmF (l : Int) (es : List En) : Nat → Int
  | 0 => l
  | j + 1 => ((es[j]?).map En.T).getD 0
theorem tmF_up : ∀ (es : List En) (l : Int), risE l es = true → ∀ m, m < es.length → tmF l es m ≤ tmF l es (m + 1)
  | [], _, _, m, h => by simp at h
  | x :: t, l, hr, 0, _ => by
    rw [risE_split, Bool.and_eq_true, Bool.and_eq_true, decide_eq_true_eq] at hr
    exact hr.1.2
  | x :: t, l, hr, m + 1, h => by
    rw [risE_split, Bool.and_eq_true] at hr
    have h9 := tmF_up t x.T hr.2 m (by simpa using h)
    have e1 : tmF l (x :: t) (m + 1) = tmF x.T t m := by cases m <;> rfl
    have e2 : tmF l (x :: t) (m + 1 + 1) = tmF x.T t (m + 1) := rfl
    rw [e1, e2]
    exact h9
theorem tmE_F (k : Kv) (m : Nat) : tmE k m = tmF k.E k.es m := by cases m <;> rfl
/-- The term that was seen last. -/
def TmI (k : Kv) (j : Nat) (t : Int) : Prop := (j = 0 ∧ t = 0) ∨ ∃ m, j = m + 1 ∧ t = tmE k m
theorem tm_step {k : Kv} (h : KvOk k) (hl : k.ln = k.es.length) {j : Nat} (hj : j ≤ k.ln) {t : Int} (ht : TmI k j t) : t ≤ tmE k j := by
  rcases ht with ⟨rfl, rfl⟩ | ⟨m, rfl, rfl⟩
  · show 0 ≤ k.E
    rcases h.bs with h9 | h9 <;> omega
  · rw [tmE_F, tmE_F]
    exact tmF_up k.es k.E h.rs m (by omega)
theorem sep_of {X : World} {B kb : Nat} {k : Kv} {ss : List Int} (h : KR X B kb k ss) : ∀ e ∈ k.es, ∀ p o, e.a = some ⟨p, o, none⟩ → ∀ o', k.la ≠ some ⟨p, o', none⟩ := fun e he p o ha o' hl => by
  have g := own_sep (h.oe e he).own h.ol (by decide) p (by rw [ha]; rfl)
  rw [hl] at g
  exact g rfl

set_option maxRecDepth 10000 in
set_option maxHeartbeats 20000000 in
theorem lawEntries (a : Option Addr) (len cap : Nat) (w : World) (hB : Bytes w a len) (hl : len ≤ 1048576) :
    Calls Try.prog 3 #[.slice a len cap] w fun e w' => e = .returned (.bool true) ∧ Below w.heap.size w w' := by
  have hbig : ∀ wx : World, Calls Try.prog 5 #[.slice a len cap] wx fun e w' => e = .returned (.bool false) ∧ wx = w' := fun wx => by
    have d : decide ((1048576 : Int) < (len : Int)) = false := decide_eq_false (by omega)
    go_enter Try.func5, Try.ntmps5
    go_wp2
    go_ret
    exact ⟨rfl, rfl⟩
  have HG := hidP hbig
  have HB := hidP hB
  clear hbig hB
  go_enter Try.func3, Try.ntmps3
  go_wp2_with fail
  refine (HG.out _).mono ?_
  rintro e w0 ⟨rfl, rfl⟩
  go_wp2_with fail
  refine (drawKeeps_ok a len cap _ HB.out hl).mono ?_
  rintro e w1 ⟨⟨k, kb, ss, v, rfl, ⟨⟨T6, V9, B6, E6, ga6, gn6, gc6, ha6, hn6, hc6, sa6, sn6, sc6, la6, ln6, lc6, ps6, bs6, es6⟩, rfl⟩, hok, hkr, h7, hB9⟩, hb1⟩
  have HOk := hidP hok
  have HR := hidP (fun W (hb : Below w1.heap.size w1 W) => hkr.read.later hb)
  have HLs := hidP (fun W (hb : Below w1.heap.size w1 W) => lastEn k hok W (hkr.read.later hb))
  have HTy := hidP (fun (j : Nat) (z : Int) (h1 : z = k.B + (j : Int)) (h2 : j ≤ k.ln) W (hb : Below w1.heap.size w1 W) => termAtY k hok j z h1 h2 W (hkr.read.later hb))
  have HTn := hidP (fun (z : Int) (h1 : z < k.B ∨ k.B + (k.ln : Int) < z) W (hb : Below w1.heap.size w1 W) => termAtN k hok z h1 W (hkr.read.later hb))
  have HKo := hidP (fun W (hb : Below w1.heap.size w1 W) => iKeepOk_yes k hok W (hkr.read.later hb))
  have HGo := hidP (fun W (hb : Below w1.heap.size w1 W) => groupOf_pre k hok W (hkr.read.later hb) (sep_of hkr))
  have HSt := hidP (fun (j : Nat) (t : Int) (h1 : j ≤ k.ln) (h2 : TmI k j t) => tm_step hok hkr.hl h1 h2)
  have hB0 := hok.b
  have hln : k.ln ≤ 7 := by rw [hkr.hl]; exact h7
  have HB1 := hidP hb1
  clear hok hkr h7 hb1
  obtain ⟨T, V, B, E, ga, gn, gc, ha, hn, hc, sa, sn, sc, la, ln, lc, ps, bs, es⟩ := k
  try simp only at HLs HTy HTn HKo HGo HSt hB0 hB9 hln
  go_wp2_with fail
  have u1 := alloc_below w1 (.cells #[.int .i64 T, .int .i64 V, .int .i64 B, .int .i64 E, .slice ga gn gc, .slice ha hn hc, .slice sa sn sc, .slice la ln lc] 29)
  have u2 := alloc_below (w1.alloc (.cells #[.int .i64 T, .int .i64 V, .int .i64 B, .int .i64 E, .slice ga gn gc, .slice ha hn hc, .slice sa sn sc, .slice la ln lc] 29)) (.cells #[.int .i64 T6, .int .i64 V9, .int .i64 B6, .int .i64 E6, .slice ga6 gn6 gc6, .slice ha6 hn6 hc6, .slice sa6 sn6 sc6, .slice la6 ln6 lc6] 29)
  have v1 : Bx (w1.alloc (.cells #[.int .i64 T, .int .i64 V, .int .i64 B, .int .i64 E, .slice ga gn gc, .slice ha hn hc, .slice sa sn sc, .slice la ln lc] 29)) w1.heap.size [.int .i64 T, .int .i64 V, .int .i64 B, .int .i64 E, .slice ga gn gc, .slice ha hn hc, .slice sa sn sc, .slice la ln lc] := Bx.new w1 [.int .i64 T, .int .i64 V, .int .i64 B, .int .i64 E, .slice ga gn gc, .slice ha hn hc, .slice sa sn sc, .slice la ln lc] 29
  have A2 := hidP (And.intro (v1.later u2) (And.intro trivial (u1.trans (u2.mono u1.size))))
  generalize (w1.alloc (.cells #[.int .i64 T, .int .i64 V, .int .i64 B, .int .i64 E, .slice ga gn gc, .slice ha hn hc, .slice sa sn sc, .slice la ln lc] 29)).alloc (.cells #[.int .i64 T6, .int .i64 V9, .int .i64 B6, .int .i64 E6, .slice ga6 gn6 gc6, .slice ha6 hn6 hc6, .slice sa6 sn6 sc6, .slice la6 ln6 lc6] 29) = w2 at *
  clear u1 u2 v1
  have c0 := A2.out.1.cel 0 _ rfl
  have c1 := A2.out.1.cel 1 _ rfl
  have c2 := A2.out.1.cel 2 _ rfl
  have c3 := A2.out.1.cel 3 _ rfl
  have c4 := A2.out.1.cel 4 _ rfl
  have c5 := A2.out.1.cel 5 _ rfl
  have c6 := A2.out.1.cel 6 _ rfl
  have c7 := A2.out.1.cel 7 _ rfl
  go_wp2_with fail
  refine (HLs.out _ A2.out.2.2).mono ?_
  rintro e w3 ⟨rfl, hb3⟩
  have A3 := hidP (And.intro (A2.out.1.later hb3) (A2.out.2.2.trans (hb3.mono A2.out.2.2.size)))
  clear hb3 A2 HLs c0 c1 c2 c3 c4 c5 c6 c7
  generalize hL : B + (ln : Int) = L at *
  generalize hM : tmE ⟨T, V, B, E, ga, gn, gc, ha, hn, hc, sa, sn, sc, la, ln, lc, ps, bs, es⟩ ln = M at *
  have HLM := hidP (And.intro hL hM)
  have hLr : 0 ≤ L ∧ L ≤ 1000 := by omega
  clear hL hM
  have c2 := A3.out.1.cel 2 _ rfl
  go_wp2_with fail
  go_loopw [2, 7, 8] (fun t2 t7 t8 wr => ∃ (j : Nat) (t z : Int), t2 = .bool false ∧ t7 = .int .i64 t ∧ t8 = .int .i64 z ∧ z = B + (j : Int) ∧ j ≤ ln + 1 ∧ TmI ⟨T, V, B, E, ga, gn, gc, ha, hn, hc, sa, sn, sc, la, ln, lc, ps, bs, es⟩ j t ∧ Bx wr w1.heap.size [.int .i64 T, .int .i64 V, .int .i64 B, .int .i64 E, .slice ga gn gc, .slice ha hn hc, .slice sa sn sc, .slice la ln lc] ∧ Below w1.heap.size w1 wr) (fun _ _ t8 _ => (L + 1 - intOf t8).toNat)
  case atStart => exact ⟨0, 0, B, rfl, rfl, rfl, by omega, by omega, Or.inl ⟨rfl, rfl⟩, A3.out.1, A3.out.2⟩
  case round =>
    obtain ⟨j, t, z, rfl, rfl, rfl, hz, hj, hT, hbx, hbw⟩ := hrel
    have A4 := hidP (And.intro hbx hbw)
    have hzr : 0 ≤ z ∧ z ≤ 2000 := by omega
    have HZ := hidP hz
    clear hz
    have HT := hidP hT
    clear hbx hbw hT A3 c2
    have c0 := A4.out.1.cel 0 _ rfl
    have c1 := A4.out.1.cel 1 _ rfl
    have c2 := A4.out.1.cel 2 _ rfl
    have c3 := A4.out.1.cel 3 _ rfl
    have c4 := A4.out.1.cel 4 _ rfl
    have c5 := A4.out.1.cel 5 _ rfl
    have c6 := A4.out.1.cel 6 _ rfl
    have c7 := A4.out.1.cel 7 _ rfl
    have hw : wrap64 (z + 1) = z + 1 := by unfold wrap64; omega
    by_cases hlt : j ≤ ln
    · have g31 : decide (z ≤ L) = true := decide_eq_true (by have h1 := HZ.out; have h2 := HLM.out.1; omega)
      go_wp2_with fail
      have hq := HSt.out j t hlt HT.out
      refine (HTy.out j z HZ.out hlt _ A4.out.2).mono ?_
      rintro e w5 ⟨rfl, hb5⟩
      have A5 := hidP (And.intro (A4.out.1.later hb5) (A4.out.2.trans (hb5.mono A4.out.2.size)))
      clear hb5 A4 c0 c1 c2 c3 c4 c5 c6 c7
      generalize hQ : tmE ⟨T, V, B, E, ga, gn, gc, ha, hn, hc, sa, sn, sc, la, ln, lc, ps, bs, es⟩ j = q at *
      have HQ := hidP hQ
      clear hQ
      have g45 : decide (q < t) = false := decide_eq_false (by omega)
      go_wp2_with fail
      go_roundw
      case rel => exact ⟨j + 1, q, z + 1, rfl, rfl, by go_num, by have h1 := HZ.out; omega, by omega, Or.inr ⟨j, rfl, HQ.out.symm⟩, A5.out.1, A5.out.2⟩
      case measure => have h1 := HZ.out; have h2 := HLM.out.1; simp [intOf]; omega
    · have g31 : decide (z ≤ L) = false := decide_eq_false (by have h1 := HZ.out; have h2 := HLM.out.1; omega)
      have htM : t = M := by
        rcases HT.out with ⟨h9, _⟩ | ⟨m, h9, h8⟩
        · omega
        · have e9 : m = ln := by omega
          rw [h8, e9]
          exact HLM.out.2
      have hwL : wrap64 (L + 1) = L + 1 := by unfold wrap64; omega
      have hwB : wrap64 (B - 1) = B - 1 := by unfold wrap64; omega
      have hwS : wrap64 (B + (ln : Int)) = B + (ln : Int) := by unfold wrap64; omega
      have gL : (L == B + (ln : Int)) = true := by simp [HLM.out.1]
      subst htM
      go_wp2_with fail
      refine (HTn.out (L + 1) (Or.inr (by have h2 := HLM.out.1; omega)) _ A4.out.2).mono ?_
      rintro e w5 ⟨rfl, hb5⟩
      have A5 := hidP (And.intro (A4.out.1.later hb5) (A4.out.2.trans (hb5.mono A4.out.2.size)))
      clear hb5 A4 c0 c1 c2 c3 c4 c5 c6 c7
      have c0 := A5.out.1.cel 0 _ rfl
      have c1 := A5.out.1.cel 1 _ rfl
      have c2 := A5.out.1.cel 2 _ rfl
      have c3 := A5.out.1.cel 3 _ rfl
      have c4 := A5.out.1.cel 4 _ rfl
      have c5 := A5.out.1.cel 5 _ rfl
      have c6 := A5.out.1.cel 6 _ rfl
      have c7 := A5.out.1.cel 7 _ rfl
      go_wp2_with fail
      refine (HTn.out (B - 1) (Or.inl (by omega)) _ A5.out.2).mono ?_
      rintro e w6 ⟨rfl, hb6⟩
      have A6 := hidP (And.intro (A5.out.1.later hb6) (A5.out.2.trans (hb6.mono A5.out.2.size)))
      clear hb6 A5 c0 c1 c2 c3 c4 c5 c6 c7
      have c0 := A6.out.1.cel 0 _ rfl
      have c1 := A6.out.1.cel 1 _ rfl
      have c2 := A6.out.1.cel 2 _ rfl
      have c3 := A6.out.1.cel 3 _ rfl
      have c4 := A6.out.1.cel 4 _ rfl
      have c5 := A6.out.1.cel 5 _ rfl
      have c6 := A6.out.1.cel 6 _ rfl
      have c7 := A6.out.1.cel 7 _ rfl
      go_wp2_with fail
      refine (HKo.out _ A6.out.2).mono ?_
      rintro e w7 ⟨rfl, hb7⟩
      have A7 := hidP (And.intro (A6.out.1.later hb7) (A6.out.2.trans (hb7.mono A6.out.2.size)))
      clear hb7 A6 c0 c1 c2 c3 c4 c5 c6 c7
      have c0 := A7.out.1.cel 0 _ rfl
      have c1 := A7.out.1.cel 1 _ rfl
      have c2 := A7.out.1.cel 2 _ rfl
      have c3 := A7.out.1.cel 3 _ rfl
      have c4 := A7.out.1.cel 4 _ rfl
      have c5 := A7.out.1.cel 5 _ rfl
      have c6 := A7.out.1.cel 6 _ rfl
      have c7 := A7.out.1.cel 7 _ rfl
      go_wp2_with fail
      refine (HGo.out _ A7.out.2).mono ?_
      rintro e w8 ⟨a1, n1, d1, b1, m1, d2, qs, rs, rfl, g1, g2, g3, g4, og, oh, hgr, hb8⟩
      have A8 := hidP (A7.out.2.trans (hb8.mono A7.out.2.size))
      have HGk := hidP (iGroupOk_any a1 n1 d1 b1 m1 d2 qs rs w8 g1 g2 og.row oh.row g3 g4)
      rw [hgr] at HGk
      clear g1 g2 g3 g4 og oh hgr hb8 A7 c0 c1 c2 c3 c4 c5 c6 c7
      go_wp2_with fail
      refine HGk.out.mono ?_
      rintro e w9 ⟨rfl, hb9⟩
      go_wp2_with fail
      go_ret
      exact ⟨rfl, HB1.out.trans ((A8.out.trans (hb9.mono A8.out.size)).mono HB1.out.size)⟩

set_option maxHeartbeats 1000000 in
theorem lawEntries_all (a : Option Addr) (len cap : Nat) (w : World) (hB : Bytes w a len) :
    Calls Try.prog 3 #[.slice a len cap] w fun e w' => e = .returned (.bool true) ∧ Below w.heap.size w w' := by
  by_cases hl : len ≤ 1048576
  · exact lawEntries a len cap w hB hl
  · have hbig : ∀ wx : World, Calls Try.prog 5 #[.slice a len cap] wx fun e w' => e = .returned (.bool true) ∧ wx = w' := fun wx => by
      have d : decide ((1048576 : Int) < (len : Int)) = true := decide_eq_true (by omega)
      go_enter Try.func5, Try.ntmps5
      go_wp2
      go_ret
      exact ⟨rfl, rfl⟩
    have HG : Hid (∀ wx : World, _) := hbig
    clear hbig
    go_enter Try.func3, Try.ntmps3
    go_wp2_with fail
    refine (HG.out _).mono ?_
    rintro e w0 ⟨rfl, rfl⟩
    go_wp2_with fail
    go_ret
    exact ⟨rfl, Below.refl _ _⟩

set_option maxRecDepth 100000 in
theorem lawEntries_lifted (os : Os) (started : os.Started) (H : Type) (enc : TypeId × Value → H) :
    ReturnsInHanded {} Try.checked os 3 .any (Rows.fnEntriesSpec.pre6 enc Try.prog Try.f3 Rows.fnEntriesRow.domain false) (Rows.fnEntriesSpec.post enc Try.prog Try.f3 false true false false) := by
  refine returnsInHanded_of_change (C := Try.checked) Try.ownW started (by kernel_rfl) Try.func3
    (ChangeSpec.witness6 (enc := enc) (C := Try.checked) false ⟨#[], #[.slice none 0 0], []⟩ 8 (by kernel_rfl) (by kernel_rfl) (by kernel_rfl) (by kernel_rfl)) ?_
  intro W base args ds gs before hval0 hW _ _
  have hval : ∀ (j : Nat) t v, Try.f3.params[j]? = some t → args[j]? = some v → Value.okWide Try.prog W .any base t v := hval0
  have hW' := hW
  obtain ⟨p, q, hA0, hV, rfl, _, _⟩ := hW
  have hA : DataW.TrodAll enc Try.prog W 0 (fun _ => true) true Try.f3.params.toList args.toList ds p := hA0
  rw [Try.params3] at hA hval
  obtain ⟨v0, d0, rfl, rfl, h0⟩ := trodAll_one hA
  obtain ⟨rfl, rfl⟩ := trodVars_none hV
  obtain ⟨a0, len, cap, rfl⟩ := okWide_slice Try.underlying22 (hval 0 22 v0 rfl rfl)
  clear hA0 hval0
  simp only [List.append_nil] at hW'
  have hlt : ∀ x ∈ p, x.block < W.heap.size := fun x hx => by simpa using hW'.lt x hx
  refine (lawEntries_all a0 len cap W (bytes_open h0)).mono fun e W' ⟨he, hb⟩ => ?_
  subst he
  exact ⟨_, rfl, ⟨_, _, _, [], p, [], hW', trodAll_mk1 (shut_bool Try.underlying4 true), trodAll_mk1 (Below.trod Try.laidOutW (by kernel_rfl) (of_decide_eq_true (by kernel_rfl)) h0 hb hlt), rfl, hb.frame _, fun h => by cases h⟩⟩

theorem lawEntries_holds : Rows.FnEntriesSaid :=
  OpenClaim.holds_of_wide 3 Try.f3 rfl rfl rfl rfl rfl rfl rfl ⟨rfl, rfl, rfl, rfl, rfl⟩ rfl rfl rfl rfl rfl (by kernel_rfl) Try.func3 (by kernel_rfl)
    (of_decide_eq_true (by kernel_rfl)) (by unfold Func.isWrapper; rw [if_neg (of_decide_eq_false (by kernel_rfl))]; exact ⟨rfl, rfl⟩)
    (fun os started H enc _ => lawEntries_lifted os started H enc)

end Go.Proofs.Ytlhddiikbfobjaa
