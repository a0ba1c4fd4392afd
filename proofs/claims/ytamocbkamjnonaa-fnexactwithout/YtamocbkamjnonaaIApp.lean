/-
  The program's Without: what leftOf hands out, one behind another in a row of its own.
-/
import Derived.Test.YtamocbkamjnonaaIRoom
import Derived.Test.YtamocbkamjnonaaLWout
namespace Go.Proofs.Ytamocbkamjnonaa
open Go.RowKit

attribute [local go_sem] Oper.semAt_some

theorem wpListIn_appR {F : Fence} {fu : Nat} {P : Program} {t e : TypeId} (h4 : Four P t e) {ops : Array Oper} {rest : List Oper} {o : Oper} {a : Act} {Q : Exit → Act → World → Prop} (w : World) (hgd : o.guard = none) (s x : Operand) (tx : TypeId)
    (ho : o.op = .call { callee := .builtin .append, args := #[s, x], argTypes := #[t, tx] })
    (B : Nat) (ad : Option Addr) (n cap m : Nat) (ps qs : List Pf) (xv : Value) (hsv : a.eval s = .slice ad n cap) (hn : n = ps.length) (hm : m = qs.length) (hown : OwnR e w B (.slice ad n cap) ps)
    (hx : a.eval x = xv) (hs : Src P 4 tx xv m (flat qs) w) (hl : n + m ≤ 1000000000) (hB : B ≤ w.heap.size)
    (h : ∀ a' c' w', OwnR e w' B (.slice a' (n + m) c') (ps ++ qs) → w.grownBy w' (Value.slice ad n cap).ownBlock → (a' = ad ∨ a' = some ⟨w.heap.size, 0, none⟩) → wpListIn F fu P ops Q rest (a.put o.dst (.slice a' (n + m) c')) w') : wpListIn F fu P ops Q (o :: rest) a w := by
  refine wpListIn_plain hgd fun K hK' => ?_
  obtain ⟨b, c, w', hr, h2, h3, h5⟩ := app_row h4 w B tx o.type ad n cap m ps qs xv hn hm hown hs hl hB
  unfold Oper.wpIn
  refine ⟨?_, ?_⟩
  · simp [Oper.about, ho, resolve, Target.leads, Sem.run_pure]
  · rw [Oper.semAt_plain F _ _ (by rw [ho]; intro c hc'; cases hc')]
    simp [execOp, ho, resolve, invoke, builtin, hsv, hx, hr, Result.andThen]
    exact hK' _ _ (h b c w' h2 h3 h5)

theorem OwnR.kpt {t : TypeId} {w w' : World} {B : Nat} {v : Value} {ps : List Pf} {M : Nat → Prop} (h : OwnR t w B v ps) (hk : Kpt M w w') (hm : ∀ k, v.ownBlock = some k → M k) : OwnR t w' B v ps := by
  refine ⟨h.1, ?_⟩
  rcases h.2 with h1 | ⟨g, cap, cur, hv, hb, hr, hr'⟩
  · exact Or.inl h1
  · exact Or.inr ⟨g, cap, cur, hv, hb, hk.at (hm g (by rw [hv]; rfl)) hr, hr'⟩
theorem Iter.later {α : Type} {P : Program} {g : Nat} {lb : Array Value} {encs : α → Array Value} {xs : List α} {R : Nat → Prop} {w w1 : World} (h : Iter P g lb encs xs R w) (hk : Kpt R w w1) : Iter P g lb encs xs R w1 :=
  fun l J M W h1 h2 h3 h4 h5 h6 => h l J M W (hk.trans h1) h2 h3 h4 h5 h6

/-- The rounds of AppendSeq own the box and the row in it. -/
def apM (s : Nat) (v : Value) (k : Nat) : Prop := k = s ∨ v.ownBlock = some k

set_option maxRecDepth 10000 in
set_option maxHeartbeats 2000000 in
theorem appSeq (gf : Nat) (lb : Array Value) (eg : ∀ args w, (callFunc gf args).run Try.prog w = .ok (.enter gf args) w) (ys : List Sp) (hl : ys.length ≤ 100000) (R : Nat → Prop) (B b0 : Nat) (w : World) (hit : Iter Try.prog gf lb encP ys R w) (hR : ∀ k, R k → k < w.heap.size) (hRb : ∀ k, R k → k ≠ b0) (hB : B ≤ w.heap.size)
    (hO : OwnR 37 w B (.slice (some ⟨b0, 0, none⟩) 0 0) []) :
    Calls Try.prog 44 #[.slice (some ⟨b0, 0, none⟩) 0 0, .func (.func gf) #[] lb] w fun e w' => ∃ a' c', e = .returned (.slice a' ys.length c') ∧ OwnR 37 w' B (.slice a' ys.length c') (ys.map Sp.pre) ∧ Below B w w' := by
  have hlb := hO.lt b0 rfl
  have HIt := hidP (hit.later (Kpt.ofBelow R ((Below.refl _ w).alloc (Nat.le_refl _) (.cells #[.slice (some ⟨b0, 0, none⟩) 0 0] 24))))
  have HR := hidP hR
  have HRb := hidP hRb
  have HO := hidP (hO.alloc (.cells #[.slice (some ⟨b0, 0, none⟩) 0 0] 24))
  have HEg := hidP eg
  clear hit hR hRb hO eg
  refine (callsIn_wide (n := 9)).1 (callsIn_of_wp_marks Try.func44 rfl trivial ?_ rfl)
  simp only [Try.ntmps44, List.size_toArray, List.length_cons, List.length_nil, Nat.reduceAdd, Nat.reduceSub, Array.replicate_succ, Array.replicate_zero, List.push_toArray, List.append_toArray, List.nil_append, List.cons_append]
  gi_wp2
  have HN0 := hidP (World.alloc_heap_new w (.cells #[.slice (some ⟨b0, 0, none⟩) 0 0] 24))
  have hs1 : (w.alloc (.cells #[.slice (some ⟨b0, 0, none⟩) 0 0] 24)).heap.size = w.heap.size + 1 := by simp
  have HB1 := hidP ((Below.refl _ w).alloc (Nat.le_refl _) (.cells #[.slice (some ⟨b0, 0, none⟩) 0 0] 24))
  generalize w.alloc (.cells #[.slice (some ⟨b0, 0, none⟩) 0 0] 24) = W1 at *
  refine wp_range (gf := gf) (lb := lb) rfl HEg.out HIt.out (fun _ => rfl) (fun k h => by have := HR.out k h; omega)
    (fun pre M V => ∃ ad c, OwnR 37 V B (.slice ad pre.length c) (pre.map Sp.pre) ∧ M = apM w.heap.size (.slice ad pre.length c) ∧ (Value.slice ad pre.length c).ownBlock ≠ some w.heap.size ∧ V.heap[w.heap.size]? = some (.cells #[.slice ad pre.length c] 24))
    (fun _ _ _ _ => False)
    (fun pre M A B' h hk => ?hI) (fun c pre M A B' h hk => h.elim) (apM w.heap.size (.slice (some ⟨b0, 0, none⟩) 0 0)) (fun k h => ?hfit) (fun k h hm => ?hdis) ⟨some ⟨b0, 0, none⟩, 0, HO.out, rfl, fun h => by have e : b0 = w.heap.size := Option.some.inj h; omega, HN0.out⟩ ?round ?done ?stop
  case hI =>
    obtain ⟨ad, c, ho, rfl, hne, hh⟩ := h
    exact ⟨ad, c, ho.kpt hk (fun k h => Or.inr h), rfl, hne, hk.at (Or.inl rfl) hh⟩
  case hfit =>
    rcases h with h | h
    · omega
    · have e : b0 = k := Option.some.inj h
      omega
  case hdis =>
    rcases hm with hm | hm
    · have := HR.out k h; omega
    · have e : b0 = k := Option.some.inj hm
      exact HRb.out k h e.symm
  case stop =>
    intro D c pre M1 V _ _ _ _ h
    exact h.elim
  case done =>
    rintro D M1 V hD hDl hMD ⟨ad, c, ho, rfl, hne, hh⟩ hg hK
    obtain ⟨v0, f0⟩ := of1 hh
    have lz := lt_heap hh
    have HE : Hid (OwnR 37 (V.putObj D (.deferred none)) B (.slice ad ys.length c) (ys.map Sp.pre) ∧ Below B w (V.putObj D (.deferred none))) := by
      refine hidP ⟨ho.kpt (kpt_put V D _) (fun k h e => hMD (Or.inr (e ▸ h))), ?_⟩
      have hz := HB1.out.size
      refine ⟨hg.kept.os.trans HB1.out.os, hg.kept.tape.trans HB1.out.tape, hg.kept.output.trans HB1.out.output, by have := hg.kept.size; rw [World.putObj_size]; omega, fun k hk => (World.putObj_heap_other (by omega)).trans ((hg.kept.block k (by omega) ?_).trans (HB1.out.block k (by omega)))⟩
      rintro (h | h)
      · omega
      · have e : b0 = k := Option.some.inj h
        omega
    clear ho hh hg
    gi_wp2
    refine ⟨by simp, .inl ⟨_, _, rfl, run_takeDeferred hK, ?_⟩⟩
    exact ⟨_, results_tmp rfl _ _ _, ad, c, rfl, HE.out⟩
  case round =>
    intro l' pre x M1 V _ hf hl' _ hlt hpre
    unfold encP
    refine rnd_of ?_
    intro K' HK'
    have HF0 := hidP hf
    have hpl : pre.length + 1 ≤ 100000 := by
      have := hpre.length_le
      rw [List.length_append, List.length_singleton] at this
      omega
    clear hf hl' hpre
    gi_wp2
    refine HK'.out _ _ ⟨(Below.refl _ V).alloc (Nat.le_refl _) _, ?_⟩
    clear HK'
    rintro V2 hk2 hs2 ⟨ad, c, ho, rfl, hne, hh⟩
    obtain ⟨x0, x1, x2, x3⟩ := box_cells V 37 x.pre
    have lV : V.heap.size < (V.alloc (.cells #[.bool x.s, .int .i64 x.H.toInt, .int .i64 x.L.toInt, .int .i64 ((wd x.s : Int) - x.n)] 37)).heap.size := by simp
    have nV : V.heap.size ≠ l' := by omega
    have y0 := (hk2.cell (p := ⟨V.heap.size, 0, none⟩) lV nV).trans x0
    have y1 := (hk2.cell (p := ⟨V.heap.size, 1, none⟩) lV nV).trans x1
    have y2 := (hk2.cell (p := ⟨V.heap.size, 2, none⟩) lV nV).trans x2
    have y3 := (hk2.cell (p := ⟨V.heap.size, 3, none⟩) lV nV).trans x3
    have hVs : V.heap.size < V2.heap.size := by rw [hs2]; exact lV
    dsimp only [Sp.pre] at y0 y1 y2 y3
    obtain ⟨v0, f0⟩ := of1 hh
    have lz := lt_heap hh
    have HOw := hidP ho
    have HH := hidP hh
    have HNe := hidP hne
    have HFt : Hid (∀ k, apM w.heap.size (.slice ad pre.length c) k → k < V2.heap.size) := hidP fun k h => by have := HF0.out k h; omega
    obtain ⟨m, hm⟩ : ∃ m, m = pre.length := ⟨_, rfl⟩
    have HM := hidP hm
    rw [← hm] at hpl v0
    clear hk2 hs2 ho hh hne x0 x1 x2 x3 lV nV hm
    have HOa := hidP (HOw.out.alloc (.cells #[.bool x.s, .int .i64 x.H.toInt, .int .i64 x.L.toInt, .int .i64 ((wd x.s : Int) - x.n)] 37))
    have HRo := hidP (row_one V2 37 x.pre)
    have HSz := hidP (heap_size_alloc' V2 (.cells #[.bool x.s, .int .i64 x.H.toInt, .int .i64 x.L.toInt, .int .i64 ((wd x.s : Int) - x.n)] 37))
    gi_wp2_with (gi_at_builtin; refine wpListIn_appR Try.fourP _ rfl (.tmp 8) (.tmp 10) 24 rfl B ad m c 1 (pre.map Sp.pre) [x.pre] (.slice (some ⟨V2.heap.size, 0, none⟩) 1 1) rfl (by rw [List.length_map]; exact HM.out) rfl (by rw [HM.out]; exact HOa.out) rfl (src_row Try.fourP 1 1 rfl HRo.out (by simp)) (by omega) (by have := HSz.out; omega) ?_; intro a6 c6 w4 ho4 hg4 ht4; have HH4 := hidP ((hg4.block w.heap.size (by rw [HSz.out]; omega) (by rw [HM.out]; exact fun e => HNe.out e.symm)).trans ((Below.heap_alloc V2 _ w.heap.size lz).trans HH.out)); have v4 := (of1 HH4.out).1; have f4 := (of1 HH4.out).2; have lz4 := lt_heap HH4.out)
    have hlen : (pre ++ [x]).length = m + 1 := by rw [List.length_append, ← HM.out]; rfl
    have hnb : (Value.slice a6 (m + 1) c6).ownBlock ≠ some w.heap.size := by
      rcases ht4 with h | h
      · rw [h]; have := HNe.out; rw [← HM.out] at this
        cases ad <;> exact this
      · rw [h]; intro e
        have e2 : (V2.alloc (.cells #[.bool x.s, .int .i64 x.H.toInt, .int .i64 x.L.toInt, .int .i64 ((wd x.s : Int) - x.n)] 37)).heap.size = w.heap.size := Option.some.inj e
        rw [HSz.out] at e2
        omega
    refine ⟨apM w.heap.size (.slice a6 (m + 1) c6), ⟨a6, c6, ?_, by rw [hlen], by rw [hlen]; exact hnb, by rw [hlen]; exact set1 HH4.out⟩, ?_⟩
    · rw [hlen, List.map_append]
      exact OwnR.kpt ho4 (kpt_set (M := fun k => k = w.heap.size) w4 ⟨w.heap.size, 0, none⟩ _ rfl) (fun k h e => hnb (e ▸ h))
    · have hz4 := hg4.size
      rw [HSz.out] at hz4
      refine ⟨⟨hg4.os, hg4.tape, hg4.output, by simp [World.setCell]; omega, fun k hk hn => ?_⟩, fun k h hk => ?_, fun k h => ?_⟩
      · refine (Below.heap_setCell w4 _ _ k (fun e => hn (Or.inl e))).trans ((hg4.block k (by rw [HSz.out]; omega) (fun e => hn (Or.inr ?_))).trans (Below.heap_alloc V2 _ k hk))
        rw [← HM.out]; exact e.symm
      · rcases h with h | h
        · exact Or.inl h
        · rcases ht4 with h' | h'
          · rw [h'] at h
            refine Or.inr ?_
            cases ad <;> exact h
          · rw [h'] at h
            have e2 : (V2.alloc (.cells #[.bool x.s, .int .i64 x.H.toInt, .int .i64 x.L.toInt, .int .i64 ((wd x.s : Int) - x.n)] 37)).heap.size = k := Option.some.inj h
            rw [HSz.out] at e2
            omega
      · have hz5 : (w4.setCell ⟨w.heap.size, 0, none⟩ (.slice a6 (m + 1) c6)).heap.size = w4.heap.size := by simp [World.setCell]
        rw [hz5]
        rcases h with h | h
        · omega
        · exact (ho4.lt k h).2

set_option maxRecDepth 10000 in
set_option maxHeartbeats 2000000 in
theorem iApp (p : Pf) (a : Option Addr) (n cap : Nat) (w : World) (ys : List Sp) (hP : LeftGives p a n cap w ys) (hl : ys.length ≤ 100000) :
    Calls Try.prog 18 #[.agg #[.bool p.s, .int .i64 p.H.toInt, .int .i64 p.L.toInt, .int .i64 p.b], .slice a n cap] w fun e w' => ∃ a' c', e = .returned (.slice a' ys.length c') ∧ OwnR 37 w' w.heap.size (.slice a' ys.length c') (ys.map Sp.pre) ∧ Below w.heap.size w w' := by
  have HP := hidP hP
  clear hP
  go_enter Try.func18, Try.ntmps18
  go_wp2_with fail
  refine (leftOf_any p a n cap _).mono ?_
  rintro e w4 ⟨rfl, hw4⟩
  obtain ⟨os, hos⟩ : ∃ os : List Obj, os = [.cells #[.bool p.s, .int .i64 p.H.toInt, .int .i64 p.L.toInt, .int .i64 p.b] 37, .cells #[] 37, .cells #[.bool p.s, .int .i64 p.H.toInt, .int .i64 p.L.toInt, .int .i64 p.b] 37, .cells #[.slice a n cap] 24] := ⟨_, rfl⟩
  have hw : w4 = allocs w os := by rw [hos]; exact hw4
  have hz : w4.heap.size = w.heap.size + 4 := by rw [hw, allocs_size, hos]; rfl
  have hb : Below w.heap.size w w4 := by rw [hw]; exact allocs_below os w
  have hat : ∀ i o, os[i]? = some o → w4.heap[w.heap.size + i]? = some o := by rw [hw]; exact allocs_at os w
  have hO : OwnR 37 w4 w.heap.size (.slice (some ⟨w.heap.size + 1, 0, none⟩) 0 0) [] := by
    have h0 := own_zero (w.alloc (.cells #[.bool p.s, .int .i64 p.H.toInt, .int .i64 p.L.toInt, .int .i64 p.b] 37)) w.heap.size 37 (by simp)
    rw [World.size_alloc] at h0
    rw [hw4]
    have h1 := (h0.alloc (.cells #[.bool p.s, .int .i64 p.H.toInt, .int .i64 p.L.toInt, .int .i64 p.b] 37)).alloc (.cells #[.slice a n cap] 24)
    exact h1
  subst hos
  have h2 := hat 2 _ rfl
  have h3 := hat 3 _ rfl
  have HIt := HP.out w4 (w.heap.size + 2) (w.heap.size + 3) hb (of4 h2).1 (of1 h3).1 (by omega) (by omega)
  have HC := hidP (appSeq 69 #[.pointer (some ⟨w.heap.size + 2, 0, none⟩), .pointer (some ⟨w.heap.size + 3, 0, none⟩)] (enters_of Try.func69 (by kernel_rfl) rfl) ys hl _ w.heap.size (w.heap.size + 1) w4 HIt (fun k h => by omega) (fun k h => by omega) (by omega) hO)
  have HB := hidP hb
  clear hw4 hw hat hb h2 h3 hO HIt
  go_wp2_with fail
  refine HC.out.mono ?_
  rintro e w5 ⟨a5, c5, rfl, ho5, hb5⟩
  have HO5 := hidP ho5
  have HB5 := hidP (HB.out.trans hb5)
  clear ho5 hb5
  go_wp2_with fail
  go_ret
  exact ⟨_, _, rfl, HO5.out, HB5.out⟩

theorem iWithout_no (p : Pf) (a : Option Addr) (cap : Nat) (ps : List Pf) (w : World) (hB : Row w a ps) (hl : ps.length ≤ 1048576) (hno : (p.pok && rightP ps) = false) :
    Calls Try.prog 18 #[.agg #[.bool p.s, .int .i64 p.H.toInt, .int .i64 p.L.toInt, .int .i64 p.b], .slice a ps.length cap] w fun e w' => ∃ a' c', e = .returned (.slice a' 0 c') ∧ OwnR 37 w' w.heap.size (.slice a' 0 c') [] ∧ Below w.heap.size w w' :=
  iApp p a ps.length cap w [] (left_no p a cap ps w hB hl hno) (by simp)
theorem iWithout_yes (x : Sp) (hx : x.ok) (a : Option Addr) (cap : Nat) (xs : List Sp) (hxs : ∀ t ∈ xs, t.ok) (w : World) (hB : Row w a (xs.map Sp.pre)) (hl : xs.length ≤ 300) :
    Calls Try.prog 18 #[.agg #[.bool x.s, .int .i64 x.H.toInt, .int .i64 x.L.toInt, .int .i64 ((wd x.s : Int) - (x.n : Int))], .slice a xs.length cap] w fun e w' => ∃ a' c', e = .returned (.slice a' (leftM x.n x xs).length c') ∧ OwnR 37 w' w.heap.size (.slice a' (leftM x.n x xs).length c') ((leftM x.n x xs).map Sp.pre) ∧ Below w.heap.size w w' :=
  iApp x.pre a xs.length cap w _ (left_yes x hx a cap xs hxs w hB hl) (by have := left_le hx xs hl; omega)

end Go.Proofs.Ytamocbkamjnonaa
