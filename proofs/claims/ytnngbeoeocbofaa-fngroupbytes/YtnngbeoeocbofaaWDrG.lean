/-
  The specification's l12Draw, l12DrawAny and DrawPutGroup: some group of rows of at most ten numbers each; nothing old turns.
-/
import Derived.Test.YtnngbeoeocbofaaV12L
import Derived.Test.YtnngbeoeocbofaaWNew
namespace Go.Proofs.Ytnngbeoeocbofaa
open Go.RowKit

theorem OwnG.kpG {α : Type} {K : Kd α} {t : TypeId} {c : Nat} {w w' : World} {B : Nat} {v : Value} {ps : List α} (h : OwnG K t w B v ps) (k : Kp c w w') (hc : c < B) : OwnG K t w' B v ps := by
  refine ⟨h.1, ?_⟩
  rcases h.2 with h1 | ⟨g, cap, cur, hv, hg, hr, hr'⟩
  · exact Or.inl h1
  · refine Or.inr ⟨g, cap, cur, hv, hg, (k.blk g ?_ (by omega)).trans hr, hr'⟩
    rcases Nat.lt_or_ge g w.heap.size with hlt | hge
    · exact hlt
    · rw [Array.getElem?_eq_none hge] at hr; cases hr
theorem l12List_some (z : Int) (h0 : 0 ≤ z) (h1 : z < 256) (w : World) :
    Calls Try.prog 51 #[.int .u8 z] w fun e w' => ∃ (a : Option Addr) (n c : Nat) (xs : List Int), e = .returned (.slice a n c) ∧ n = xs.length ∧ n ≤ 9 ∧ OwnG KI 3 w' w.heap.size (.slice a n c) xs ∧ Below w.heap.size w w' := by
  obtain ⟨k, rfl⟩ := Int.eq_ofNat_of_zero_le h0
  have hk : k < 256 := by omega
  have hl : (lsB 7 k 1).length ≤ 8 := (show ∀ z : Fin 256, (lsB 7 z.val 1).length ≤ 8 from of_decide_eq_true (by kernel_rfl)) ⟨k, hk⟩
  exact (l12List_any k hk w).mono fun _ _ ⟨a, c, e1, o1, b1⟩ => ⟨a, _, c, _, e1, rfl, by omega, o1, b1⟩
/-- While a group is drawn: the result's box is w's first new block. -/
structure GdI (w X : World) (c : Nat) (a : Option Addr) (len cap : Nat) : Prop where
  cur : Cur X c a len cap
  kp : Kp c w X
  hc : c < w.heap.size
  r0 : X.cell? ⟨w.heap.size, 0, none⟩ = some (.slice none 0 0)
  r1 : X.cell? ⟨w.heap.size, 1, none⟩ = some (.slice none 0 0)
  rF : ∀ o, X.frozen? ⟨w.heap.size, o, none⟩ = false
  lt : w.heap.size < X.heap.size
theorem GdI.keep {w X Y : World} {c : Nat} {a : Option Addr} {len cap : Nat} (h : GdI w X c a len cap) (hC : Cur Y c a len cap) (k : Kp c X Y) : GdI w Y c a len cap := by
  have h1 := h.hc
  exact ⟨hC, h.kp.trans k, h.hc, (k.cel _ _ h.lt (by omega)).trans h.r0, (k.cel _ _ h.lt (by omega)).trans h.r1, fun o => (k.frz _ _ h.lt (by omega)).trans (h.rF o), Nat.lt_of_lt_of_le h.lt k.big⟩
theorem GdI.below {w X Y : World} {c : Nat} {a : Option Addr} {len cap : Nat} (h : GdI w X c a len cap) (k : Below X.heap.size X Y) : GdI w Y c a len cap := h.keep (h.cur.grew k) (Kp.of_below (Nat.lt_trans h.hc h.lt) k)
theorem GdI.set {w X : World} {c : Nat} {a : Option Addr} {len cap : Nat} (h : GdI w X c a len cap) {e o : Nat} (he : w.heap.size < e) (v : Value) : GdI w (X.setCell ⟨e, o, none⟩ v) c a len cap := by
  have h1 := h.hc
  exact ⟨h.cur.far (by omega) v, h.kp.setNew h.hc (Nat.le_of_lt he) v, h.hc, cell_set1 h.r0 (by omega), cell_set1 h.r1 (by omega), fun o => frz_set1 (h.rF o), by simpa using h.lt⟩
/-- And the group's own box is block e; its rows are the call's own. -/
structure GdB (w X : World) (c : Nat) (a : Option Addr) (len cap e : Nat) (P Q : Value) (ps bs : List Int) : Prop where
  op : GdI w X c a len cap
  he : w.heap.size < e
  hl : e < X.heap.size
  d0 : X.cell? ⟨e, 0, none⟩ = some P
  d1 : X.cell? ⟨e, 1, none⟩ = some Q
  dF : ∀ o, X.frozen? ⟨e, o, none⟩ = false
  own : OwnG KI 3 X (w.heap.size + 1) P ps
  onx : OwnG KI 3 X (w.heap.size + 1) Q bs
  ne : ∀ k, P.ownBlock = some k → k ≠ e
  nx : ∀ k, Q.ownBlock = some k → k ≠ e
theorem GdB.keep {w X Y : World} {c : Nat} {a : Option Addr} {len cap e : Nat} {P Q : Value} {ps bs : List Int} (h : GdB w X c a len cap e P Q ps bs) (hC : Cur Y c a len cap) (k : Kp c X Y) : GdB w Y c a len cap e P Q ps bs := by
  have h1 := h.he; have h2 := h.hl; have h3 := h.op.hc
  exact ⟨h.op.keep hC k, h.he, Nat.lt_of_lt_of_le h.hl k.big, (k.cel _ _ h2 (by omega)).trans h.d0, (k.cel _ _ h2 (by omega)).trans h.d1, fun o => (k.frz _ _ h2 (by omega)).trans (h.dF o), h.own.kpG k (by omega), h.onx.kpG k (by omega), h.ne, h.nx⟩
theorem GdB.below {w X Y : World} {c : Nat} {a : Option Addr} {len cap e : Nat} {P Q : Value} {ps bs : List Int} (h : GdB w X c a len cap e P Q ps bs) (k : Below X.heap.size X Y) : GdB w Y c a len cap e P Q ps bs :=
  h.keep (h.op.cur.grew k) (Kp.of_below (Nat.lt_trans h.op.hc h.op.lt) k)
theorem own_setG {X : World} {B e o : Nat} {v : Value} {ps : List Int} (h : OwnG KI 3 X B v ps) (hne : ∀ k, v.ownBlock = some k → k ≠ e) (u : Value) : OwnG KI 3 (X.setCell ⟨e, o, none⟩ u) B v ps :=
  OwnG.grown h (grown_cellG _ _ _ _) (fun k hk he => hne k hk (Option.some.inj he).symm)
theorem GdB.put0 {w X : World} {c : Nat} {a : Option Addr} {len cap e : Nat} {P Q P' : Value} {ps bs ps' : List Int} (h : GdB w X c a len cap e P Q ps bs) (ho : OwnG KI 3 X (w.heap.size + 1) P' ps') (hn : ∀ k, P'.ownBlock = some k → k ≠ e) : GdB w (X.setCell ⟨e, 0, none⟩ P') c a len cap e P' Q ps' bs :=
  ⟨h.op.set h.he _, h.he, by simpa using h.hl, by simp [go_sem, h.d0], by simp [go_sem, h.d1], fun o => frz_set1 (h.dF o), own_setG ho hn _, own_setG h.onx h.nx _, hn, h.nx⟩
theorem GdB.put1 {w X : World} {c : Nat} {a : Option Addr} {len cap e : Nat} {P Q Q' : Value} {ps bs bs' : List Int} (h : GdB w X c a len cap e P Q ps bs) (ho : OwnG KI 3 X (w.heap.size + 1) Q' bs') (hn : ∀ k, Q'.ownBlock = some k → k ≠ e) : GdB w (X.setCell ⟨e, 1, none⟩ Q') c a len cap e P Q' ps bs' :=
  ⟨h.op.set h.he _, h.he, by simpa using h.hl, by simp [go_sem, h.d0], by simp [go_sem, h.d1], fun o => frz_set1 (h.dF o), own_setG h.own h.ne _, own_setG ho hn _, h.ne, hn⟩
theorem GdB.fin {w X : World} {c : Nat} {a : Option Addr} {len cap e : Nat} {P Q : Value} {ps bs : List Int} (h : GdB w X c a len cap e P Q ps bs) (u v : Value) :
    OwnG KI 3 ((X.setCell ⟨w.heap.size, 0, none⟩ u).setCell ⟨w.heap.size, 1, none⟩ v) w.heap.size P ps ∧ OwnG KI 3 ((X.setCell ⟨w.heap.size, 0, none⟩ u).setCell ⟨w.heap.size, 1, none⟩ v) w.heap.size Q bs ∧ Cur ((X.setCell ⟨w.heap.size, 0, none⟩ u).setCell ⟨w.heap.size, 1, none⟩ v) c a len cap ∧ Kp c w ((X.setCell ⟨w.heap.size, 0, none⟩ u).setCell ⟨w.heap.size, 1, none⟩ v) := by
  have n1 : ∀ k, P.ownBlock = some k → k ≠ w.heap.size := fun k hk => by have := (OwnG.lt h.own k hk).1; omega
  have n2 : ∀ k, Q.ownBlock = some k → k ≠ w.heap.size := fun k hk => by have := (OwnG.lt h.onx k hk).1; omega
  exact ⟨OwnG.mono (own_setG (own_setG h.own n1 _) n1 _) (by omega), OwnG.mono (own_setG (own_setG h.onx n2 _) n2 _) (by omega), (h.op.cur.far h.op.hc _).far h.op.hc _, (h.op.kp.setNew h.op.hc (Nat.le_refl _) _).setNew h.op.hc (Nat.le_refl _) _⟩

def DrG (w w' : World) (e : Ending) (L : Nat) : Prop := ∃ (a1 : Option Addr) (n1 c1 : Nat) (a2 : Option Addr) (n2 c2 : Nat) (ps bs : List Int), e = .returned (.agg #[.slice a1 n1 c1, .slice a2 n2 c2]) ∧ n1 = ps.length ∧ n2 = bs.length ∧ n1 ≤ L ∧ n2 ≤ L ∧ OwnG KI 3 w' w.heap.size (.slice a1 n1 c1) ps ∧ OwnG KI 3 w' w.heap.size (.slice a2 n2 c2) bs

set_option maxRecDepth 10000 in
set_option maxHeartbeats 4000000 in
theorem l12Draw_any (c : Nat) (a : Option Addr) (len cap : Nat) (w : World) (hC : Cur w c a len cap) :
    Calls Try.prog 53 #[.pointer (some ⟨c, 0, none⟩)] w fun e w' => DrG w w' e 9 ∧ Cur w' c a len cap ∧ Kp c w w' := by
  have hc := hC.lt
  have H1 := hidP (show GdI w (w.alloc (.cells #[.slice none 0 0, .slice none 0 0] 26)) c a len cap from ⟨hC.more _, (Kp.refl _ _).more hc _, hc, by simp [go_sem], by simp [go_sem], fun o => by simp [go_sem], by simp⟩)
  clear hC
  go_enter Try.func53, Try.ntmps53
  go_wp2_with fail
  generalize w.alloc (.cells #[.slice none 0 0, .slice none 0 0] 26) = W1 at *
  refine (l1Below_any c a len cap 31 _ H1.out.cur).mono ?_
  rintro e w2 ⟨⟨x, x0, x9, rfl⟩, hC2, hK2⟩
  have H2 := hidP (H1.out.keep hC2 hK2)
  have x8 := x9 (by omega)
  have e1 : IntKind.i64.wrap (1 + x) = 1 + x := by rw [IntKind.wrap_i64]; omega
  have e2 : IntKind.u8.wrap (1 + x) = 1 + x := by rw [IntKind.wrap_u8]; omega
  have HL1 := hidP (fun W => l12List_some (1 + x) (by omega) (by omega) W)
  clear hC2 hK2 H1 x9
  go_wp2_with fail
  refine (HL1.out _).mono ?_
  rintro e w3 ⟨a1, n1, c1, ps, rfl, hn1, hl1, ho1, hb3⟩
  have H3 := hidP (H2.out.below hb3)
  have HO := hidP (OwnG.mono ho1 (show w.heap.size + 1 ≤ w2.heap.size from H2.out.lt))
  have HN1 := hidP hn1
  clear hb3 ho1 H2 HL1 hn1
  go_wp2_with fail
  have H4 := hidP (show GdB w (w3.alloc (.cells #[.slice a1 n1 c1, .slice none 0 0] 26)) c a len cap w3.heap.size (.slice a1 n1 c1) (.slice none 0 0) ps [] from by
    have zb := alloc_below w3 (.cells #[.slice a1 n1 c1, .slice none 0 0] 26)
    exact ⟨H3.out.below zb, H3.out.lt, alloc_lt _ _, by simp [go_sem], by simp [go_sem], fun o => by simp [go_sem], HO.out.later zb, own_noneG KI _ _ _, fun k hk => Nat.ne_of_lt (OwnG.lt HO.out k hk).2, fun k hk => by cases hk⟩)
  have HL4 := hidP H3.out.lt
  generalize w3.alloc (.cells #[.slice a1 n1 c1, .slice none 0 0] 26) = W4 at *
  generalize w3.heap.size = E at *
  clear H3 HO
  refine (l1Once_any c a len cap 3 _ H4.out.op.cur).mono ?_
  rintro e w5 ⟨⟨B, rfl⟩, hC5, hK5⟩
  have H5 := hidP (H4.out.keep hC5 hK5)
  clear hC5 hK5 H4
  have hE := HL4.out
  have nA : ¬ (E = w.heap.size) := by omega
  have nB : ¬ (w.heap.size = E) := by omega
  cases B
  · have p0 := H5.out.d0
    have p1 := H5.out.d1
    have r0 := H5.out.op.r0
    have r1 := H5.out.op.r1
    have rF := H5.out.op.rF
    go_wp2_with fail
    have hF := H5.out.fin (.slice a1 n1 c1) (.slice none 0 0)
    refine bodyPost_ret (v := .agg #[.slice a1 n1 c1, .slice none 0 0]) (by simp [results, Try.results53, go_sem, r0, r1]) rfl ⟨⟨a1, n1, c1, none, 0, 0, ps, [], rfl, HN1.out, rfl, hl1, by omega, hF.1, hF.2.1⟩, hF.2.2⟩
  · go_wp2_with fail
    refine (l1Below_any c a len cap 63 _ H5.out.op.cur).mono ?_
    rintro e w6 ⟨⟨z, z0, z9, rfl⟩, hC6, hK6⟩
    have H6 := hidP (H5.out.keep hC6 hK6)
    have z8 := z9 (by omega)
    have e3 : IntKind.i64.wrap (1 + z) = 1 + z := by rw [IntKind.wrap_i64]; omega
    have e4 : IntKind.u8.wrap (1 + z) = 1 + z := by rw [IntKind.wrap_u8]; omega
    have HL2 := hidP (fun W => l12List_some (1 + z) (by omega) (by omega) W)
    clear hC6 hK6 H5 z9
    go_wp2_with fail
    refine (HL2.out _).mono ?_
    rintro e w7 ⟨a2, n2, c2, bs, rfl, hn2, hl2, ho2, hb7⟩
    have H7 := hidP (H6.out.below hb7)
    have HO2 := hidP (OwnG.mono ho2 (show w.heap.size + 1 ≤ w6.heap.size from H6.out.op.lt))
    have HN2 := hidP hn2
    have HE2 : Hid (∀ k, (Value.slice a2 n2 c2).ownBlock = some k → k ≠ E) := hidP (fun k hk => by have h5 := (OwnG.lt ho2 k hk).1; have h6 := H6.out.hl; omega)
    clear hb7 ho2 H6 HL2 hn2
    have p0 := H7.out.d0
    have p1 := H7.out.d1
    have pF := H7.out.dF
    have r0 := H7.out.op.r0
    have r1 := H7.out.op.r1
    have rF := H7.out.op.rF
    go_wp2_with fail
    have hF := (H7.out.put1 HO2.out HE2.out).fin (.slice a1 n1 c1) (.slice a2 n2 c2)
    refine bodyPost_ret (v := .agg #[.slice a1 n1 c1, .slice a2 n2 c2]) (by simp [results, Try.results53, go_sem, r0, r1]) rfl ⟨⟨a1, n1, c1, a2, n2, c2, ps, bs, rfl, HN1.out, HN2.out, hl1, hl2, hF.1, hF.2.1⟩, hF.2.2⟩

end Go.Proofs.Ytnngbeoeocbofaa
