/-
  The specification's l13Entry: some right entry, its bytes in a row of the call's own.
-/
import Derived.Test.YtlhddiikbfobjaaZE14
import Derived.Test.YtlhddiikbfobjaaZE7
namespace Go.Proofs.Ytlhddiikbfobjaa
open Go.ChangeShapes Go.WideShapes Go.ChangeAt Go.RowKit Go.Joins Go.Deep

/-- While an entry is drawn: the result's box is w's first new block. -/
structure EdI (w X : World) (c : Nat) (a : Option Addr) (len cap : Nat) : Prop where
  cur : Cur X c a len cap
  kp : Kp c w X
  hc : c < w.heap.size
  r0 : X.cell? ⟨w.heap.size, 0, none⟩ = some (.int .i64 0)
  r1 : X.cell? ⟨w.heap.size, 1, none⟩ = some (.int .i64 0)
  r2 : X.cell? ⟨w.heap.size, 2, none⟩ = some (.slice none 0 0)
  rF : ∀ o, X.frozen? ⟨w.heap.size, o, none⟩ = false
  lt : w.heap.size < X.heap.size
theorem EdI.keep {w X Y : World} {c : Nat} {a : Option Addr} {len cap : Nat} (h : EdI w X c a len cap) (hC : Cur Y c a len cap) (k : Kp c X Y) : EdI w Y c a len cap := by
  have h1 := h.hc
  exact ⟨hC, h.kp.trans k, h.hc, (k.cel _ _ h.lt (by omega)).trans h.r0, (k.cel _ _ h.lt (by omega)).trans h.r1, (k.cel _ _ h.lt (by omega)).trans h.r2, fun o => (k.frz _ _ h.lt (by omega)).trans (h.rF o), Nat.lt_of_lt_of_le h.lt k.big⟩
theorem EdI.below {w X Y : World} {c : Nat} {a : Option Addr} {len cap : Nat} (h : EdI w X c a len cap) (k : Below X.heap.size X Y) : EdI w Y c a len cap := h.keep (h.cur.grew k) (Kp.of_below (Nat.lt_trans h.hc h.lt) k)
theorem own_setBy {X : World} {B e o : Nat} {v : Value} {ps : List Int} (h : OwnG KBy 5 X B v ps) (hne : ∀ k, v.ownBlock = some k → k ≠ e) (u : Value) : OwnG KBy 5 (X.setCell ⟨e, o, none⟩ u) B v ps :=
  OwnG.grown h (grown_cellG _ _ _ _) (fun k hk he => hne k hk (Option.some.inj he).symm)
theorem EdI.fin {w X : World} {c : Nat} {a : Option Addr} {len cap : Nat} (h : EdI w X c a len cap) {v : Value} {zs : List Int} (ho : OwnG KBy 5 X (w.heap.size + 1) v zs) (u u' u'' : Value) :
    OwnG KBy 5 (((X.setCell ⟨w.heap.size, 0, none⟩ u).setCell ⟨w.heap.size, 1, none⟩ u').setCell ⟨w.heap.size, 2, none⟩ u'') w.heap.size v zs ∧ Cur (((X.setCell ⟨w.heap.size, 0, none⟩ u).setCell ⟨w.heap.size, 1, none⟩ u').setCell ⟨w.heap.size, 2, none⟩ u'') c a len cap ∧ Kp c w (((X.setCell ⟨w.heap.size, 0, none⟩ u).setCell ⟨w.heap.size, 1, none⟩ u').setCell ⟨w.heap.size, 2, none⟩ u'') := by
  have n1 : ∀ k, v.ownBlock = some k → k ≠ w.heap.size := fun k hk => by have := (OwnG.lt ho k hk).1; omega
  exact ⟨OwnG.mono (own_setBy (own_setBy (own_setBy ho n1 _) n1 _) n1 _) (by omega), ((h.cur.far h.hc _).far h.hc _).far h.hc _, ((h.kp.setNew h.hc (Nat.le_refl _) _).setNew h.hc (Nat.le_refl _) _).setNew h.hc (Nat.le_refl _) _⟩
theorem tOk {T : Int} (h : 1 ≤ T ∧ T ≤ 1000000) : (decide (1 ≤ T) && decide (T ≤ 1000000)) = true := by simp [h.1, h.2]
/-- How an entry comes out. -/
def DrE (w w' : World) (e : Ending) (T : Int) : Prop := ∃ E : En, e = .returned (.agg #[.int .i64 E.T, .int .i64 E.K, .slice E.a E.n E.c]) ∧ E.T = T ∧ E.ok = true ∧ E.n = E.zs.length ∧ Oct E.zs ∧ OwnG KBy 5 w' w.heap.size (.slice E.a E.n E.c) E.zs

set_option maxRecDepth 10000 in
set_option maxHeartbeats 4000000 in
theorem l13Entry_ok (c : Nat) (a : Option Addr) (len cap : Nat) (T : Int) (t0 : 1 ≤ T) (t1 : T ≤ 1000000) (w : World) (hC : Cur w c a len cap) :
    Calls Try.prog 60 #[.pointer (some ⟨c, 0, none⟩), .int .i64 T] w fun e w' => DrE w w' e T ∧ Cur w' c a len cap ∧ Kp c w w' := by
  have hc := hC.lt
  have H1 := hidP (show EdI w (w.alloc (.cells #[.int .i64 0, .int .i64 0, .slice none 0 0] 65)) c a len cap from ⟨hC.more _, (Kp.refl _ _).more hc _, hc, by simp [go_sem], by simp [go_sem], by simp [go_sem], fun o => by simp [go_sem], by simp⟩)
  have HT := hidP (And.intro t0 t1)
  clear hC t0 t1
  go_enter Try.func60, Try.ntmps60
  go_wp2_with fail
  generalize w.alloc (.cells #[.int .i64 0, .int .i64 0, .slice none 0 0] 65) = W1 at *
  refine (l1Below_any c a len cap 5 _ H1.out.cur).mono ?_
  rintro e w2 ⟨⟨x, x0, x9, rfl⟩, hC2, hK2⟩
  have H2 := hidP (H1.out.keep hC2 hK2)
  have x8 := x9 (by omega)
  clear hC2 hK2 H1 x9
  by_cases h0 : x = 0
  · subst h0
    have r0 := H2.out.r0
    have r1 := H2.out.r1
    have r2 := H2.out.r2
    have rF := H2.out.rF
    go_wp2_with fail
    have hF := H2.out.fin (own_noneG KBy _ _ _) (.int .i64 T) (.int .i64 1) (.slice none 0 0)
    exact bodyPost_ret (v := .agg #[.int .i64 T, .int .i64 1, .slice none 0 0]) (by simp [results, Try.results60, go_sem, r0, r1, r2]) rfl ⟨⟨⟨T, 1, none, 0, 0, []⟩, rfl, rfl, by unfold En.ok; dsimp only; rw [enB_1 (tOk HT.out)]; rfl, rfl, oct_nil, hF.1⟩, hF.2⟩
  · have h0' : (x == 0) = false := by simp [h0]
    by_cases h1 : x = 1
    · subst h1
      go_wp2_with fail
      refine (l12Draw_ok c a len cap _ H2.out.cur).mono ?_
      rintro e w3 ⟨⟨a1, n1, c1, a2, n2, c2, ps, bs, rfl, hn1, hn2, hl1, hl2, o1, o2, hg, hgb⟩, hC3, hK3⟩
      have H3 := hidP (H2.out.keep hC3 hK3)
      have HP := hidP (sPgA_yes a1 n1 c1 a2 n2 c2 ps bs w3 hn1 hn2 o1.row o2.row (by omega) (by omega) hg)
      have HG := hidP hgb
      clear hC3 hK3 o1 o2 hn1 hn2 hg hgb
      go_wp2_with fail
      refine HP.out.mono ?_
      rintro e w4 ⟨a', c', rfl, o4, hb4⟩
      have H4 := hidP (H3.out.below hb4)
      have HO := hidP (OwnG.mono o4 (show w.heap.size + 1 ≤ w3.heap.size from H3.out.lt))
      clear o4 hb4 H3 HP
      have r0 := H4.out.r0
      have r1 := H4.out.r1
      have r2 := H4.out.r2
      have rF := H4.out.rF
      go_wp2_with fail
      have hF := H4.out.fin HO.out (.int .i64 T) (.int .i64 3) (.slice a' 2 c')
      exact bodyPost_ret (v := .agg #[.int .i64 T, .int .i64 3, .slice a' 2 c']) (by simp [results, Try.results60, go_sem, r0, r1, r2]) rfl ⟨⟨⟨T, 3, a', 2, c', [byI 0 ps, byI 0 bs]⟩, rfl, rfl, by unfold En.ok; dsimp only; rw [enB_3 (tOk HT.out)]; exact HG.out.1, rfl, HG.out.2, hF.1⟩, hF.2⟩
    · have h1' : (x == 1) = false := by simp [h1]
      go_wp2_with fail
      refine (l1Below_any c a len cap 6 _ H2.out.cur).mono ?_
      rintro e w3 ⟨⟨y, y0, y9, rfl⟩, hC3, hK3⟩
      have H3 := hidP (H2.out.keep hC3 hK3)
      have y8 := y9 (by omega)
      clear hC3 hK3 y9
      obtain ⟨n, rfl⟩ := Int.eq_ofNat_of_zero_le y0
      go_wp2_with fail
      refine (l1Bytes_any c a len cap n (by omega) _ H3.out.cur).mono ?_
      rintro e w4 ⟨⟨g, cp, zs, hz, hoz, rfl, o4⟩, hC4, hK4⟩
      have H4 := hidP (H3.out.keep hC4 hK4)
      have HO := hidP (OwnG.mono (own_by.2 o4) (show w.heap.size + 1 ≤ w3.heap.size from H3.out.lt))
      have HZ := hidP (And.intro hz hoz)
      clear o4 hC4 hK4 H3 hz hoz
      have r0 := H4.out.r0
      have r1 := H4.out.r1
      have r2 := H4.out.r2
      have rF := H4.out.rF
      go_wp2_with fail
      have hF := H4.out.fin HO.out (.int .i64 T) (.int .i64 2) (.slice (some ⟨g, 0, none⟩) n cp)
      exact bodyPost_ret (v := .agg #[.int .i64 T, .int .i64 2, .slice (some ⟨g, 0, none⟩) n cp]) (by simp [results, Try.results60, go_sem, r0, r1, r2]) rfl ⟨⟨⟨T, 2, some ⟨g, 0, none⟩, n, cp, zs⟩, rfl, rfl, by unfold En.ok; dsimp only; rw [enB_2 (tOk HT.out)]; exact decide_eq_true (by omega), HZ.out.1.symm, HZ.out.2, hF.1⟩, hF.2⟩

end Go.Proofs.Ytlhddiikbfobjaa

/-
  Rows of entries of one's own, each entry's bytes in a row of one's own elsewhere; entries that hold the same.
-/
namespace Go.Proofs.Ytlhddiikbfobjaa
open Go.ChangeShapes Go.WideShapes Go.ChangeAt Go.RowKit Go.Joins Go.Deep

/-- An entry whose bytes lie in a row of one's own, elsewhere than in the block G. -/
structure EnO (w : World) (B G : Nat) (e : En) : Prop where
  hn : e.n = e.zs.length
  ho : Oct e.zs
  own : OwnG KBy 5 w B (.slice e.a e.n e.c) e.zs
  ne : ∀ k, (Value.slice e.a e.n e.c).ownBlock = some k → k ≠ G
theorem EnO.dat {w : World} {B G : Nat} {e : En} (h : EnO w B G e) : DatR w e := ⟨h.hn, h.ho, h.own.row⟩
theorem EnO.later {w w' : World} {B G : Nat} {e : En} (h : EnO w B G e) (hb : Below w.heap.size w w') : EnO w' B G e := ⟨h.hn, h.ho, h.own.later hb, h.ne⟩
theorem EnO.grown {w w' : World} {B G : Nat} {e : En} (h : EnO w B G e) (hg : w.grownBy w' (some G)) : EnO w' B G e := ⟨h.hn, h.ho, h.own.grown hg (fun k hk he => h.ne k hk (Option.some.inj he).symm), h.ne⟩
theorem EnO.set {w : World} {B G : Nat} {e : En} (h : EnO w B G e) (o : Nat) (v : Value) : EnO (w.setCell ⟨G, o, none⟩ v) B G e := h.grown (grown_cellG _ _ _ _)
/-- What an entry holds. -/
def En.key (e : En) : Int × Int × Nat × List Int := (e.T, e.K, e.n, e.zs)
theorem key_T {e f : En} (h : e.key = f.key) : e.T = f.T := congrArg (fun x => x.1) h
def En.zero : En := ⟨0, 0, none, 0, 0, []⟩

end Go.Proofs.Ytlhddiikbfobjaa

/-
  The specification's KeepNew of a right group, wherever it lies.
-/
namespace Go.Proofs.Ytlhddiikbfobjaa
open Go.ChangeShapes Go.WideShapes Go.ChangeAt Go.RowKit Go.Joins Go.Deep

set_option maxRecDepth 10000 in
set_option maxHeartbeats 2000000 in
theorem sKnA_yes (ap : Option Addr) (np cp : Nat) (ab : Option Addr) (nb cb : Nat) (ps bs : List Int) (w : World) (hnp : np = ps.length) (hnb : nb = bs.length) (hP : RowG KI w ap ps) (hK : RowG KI w ab bs) (hcp : ap = none → cp = 0) (hcb : ab = none → cb = 0) (hl : np ≤ 1048576) (hl' : nb ≤ 1048576) (hr : grB ps bs = true) :
    Calls Try.prog 55 #[.agg #[.slice ap np cp, .slice ab nb cb]] w fun e w' => ∃ a c b d, e = .returned (.agg #[.int .i64 0, .int .i64 0, .int .i64 0, .int .i64 0, .slice a np c, .slice b nb d, .slice none 0 0, .slice none 0 0]) ∧ OwnG KI 3 w' w.heap.size (.slice a np c) ps ∧ OwnG KI 3 w' w.heap.size (.slice b nb d) bs ∧ (∀ k, (Value.slice a np c).ownBlock = some k → (Value.slice b nb d).ownBlock ≠ some k) ∧ Below w.heap.size w w' := by
  have HOw := hidP (fun W h9 => l12Copy_any ap np cp ab nb cb ps bs W hnp hnb (hP.later h9) (hK.later h9) hcp hcb hl hl')
  have HIm := hidP (fun W h9 => sGroupOk_any ap np cp ab nb cb ps bs W hnp hnb (hP.later h9) (hK.later h9) hl hl')
  rw [hr] at HIm
  clear hP hK hnp hnb hr hcp hcb
  go_enter Try.func55, Try.ntmps55
  go_wp2_with fail
  obtain ⟨bk0_W1, bk1_W1⟩ := box2D w 26 (.slice ap np cp) (.slice ab nb cb)
  have bkF_W1 : ∀ o, (w.alloc (.cells #[.slice ap np cp, .slice ab nb cb] 26)).frozen? ⟨w.heap.size, o, none⟩ = false := fun o => by simp [go_sem]
  have bkL_W1 : w.heap.size < (w.alloc (.cells #[.slice ap np cp, .slice ab nb cb] 26)).heap.size := by simp
  have ab_W1 := alloc_below w (.cells #[.slice ap np cp, .slice ab nb cb] 26)
  have as_W1 : Hid ((w.alloc (.cells #[.slice ap np cp, .slice ab nb cb] 26)).heap.size = w.heap.size + 1) := hidP (by simp)
  generalize w.alloc (.cells #[.slice ap np cp, .slice ab nb cb] 26) = W1 at *
  have acc_W1 := hidP (ab_W1)
  have sz_W1 : Hid (w.heap.size ≤ W1.heap.size) := hidP ab_W1.size
  clear ab_W1 
  obtain ⟨rs0_W2, rs1_W2, rs2_W2, rs3_W2, rs4_W2, rs5_W2, rs6_W2, rs7_W2⟩ := box8K W1 29 (.int .i64 0) (.int .i64 0) (.int .i64 0) (.int .i64 0) (.slice none 0 0) (.slice none 0 0) (.slice none 0 0) (.slice none 0 0)
  have rsF_W2 : ∀ o, (W1.alloc (.cells #[.int .i64 0, .int .i64 0, .int .i64 0, .int .i64 0, .slice none 0 0, .slice none 0 0, .slice none 0 0, .slice none 0 0] 29)).frozen? ⟨W1.heap.size, o, none⟩ = false := fun o => by simp [go_sem]
  have rsL_W2 : W1.heap.size < (W1.alloc (.cells #[.int .i64 0, .int .i64 0, .int .i64 0, .int .i64 0, .slice none 0 0, .slice none 0 0, .slice none 0 0, .slice none 0 0] 29)).heap.size := by simp
  have ab_W2 := alloc_below W1 (.cells #[.int .i64 0, .int .i64 0, .int .i64 0, .int .i64 0, .slice none 0 0, .slice none 0 0, .slice none 0 0, .slice none 0 0] 29)
  have as_W2 : Hid ((W1.alloc (.cells #[.int .i64 0, .int .i64 0, .int .i64 0, .int .i64 0, .slice none 0 0, .slice none 0 0, .slice none 0 0, .slice none 0 0] 29)).heap.size = W1.heap.size + 1) := hidP (by simp)
  generalize W1.alloc (.cells #[.int .i64 0, .int .i64 0, .int .i64 0, .int .i64 0, .slice none 0 0, .slice none 0 0, .slice none 0 0, .slice none 0 0] 29) = W2 at *
  have bk0_W2 := (ab_W2.cell bkL_W1).trans bk0_W1
  have bk1_W2 := (ab_W2.cell bkL_W1).trans bk1_W1
  have bkF_W2 : ∀ o, W2.frozen? ⟨w.heap.size, o, none⟩ = false := fun o => (ab_W2.frozen bkL_W1).trans (bkF_W1 o)
  have bkL_W2 : w.heap.size < W2.heap.size := Nat.lt_of_lt_of_le bkL_W1 ab_W2.size
  have acc_W2 := hidP (acc_W1.out.trans (ab_W2.mono acc_W1.out.size))
  have sz_W2 : Hid (W1.heap.size ≤ W2.heap.size) := hidP ab_W2.size
  clear ab_W2 bk0_W1 bk1_W1 bkF_W1 bkL_W1 acc_W1
  rw [as_W1.out] at rs0_W2 rs1_W2 rs2_W2 rs3_W2 rs4_W2 rs5_W2 rs6_W2 rs7_W2 rsL_W2
  have rsF_W2' : ∀ o, W2.frozen? ⟨w.heap.size + 1, o, none⟩ = false := fun o => by have := rsF_W2 o; rw [as_W1.out] at this; exact this
  clear rsF_W2
  have rsF_W2 := rsF_W2'
  clear rsF_W2'
  refine (HIm.out _ acc_W2.out).mono ?_
  rintro e w3 ⟨rfl, hb3⟩
  have bk0_w3 := (hb3.cell bkL_W2).trans bk0_W2
  have bk1_w3 := (hb3.cell bkL_W2).trans bk1_W2
  have bkF_w3 : ∀ o, w3.frozen? ⟨w.heap.size, o, none⟩ = false := fun o => (hb3.frozen bkL_W2).trans (bkF_W2 o)
  have bkL_w3 : w.heap.size < w3.heap.size := Nat.lt_of_lt_of_le bkL_W2 hb3.size
  have rs0_w3 := (hb3.cell rsL_W2).trans rs0_W2
  have rs1_w3 := (hb3.cell rsL_W2).trans rs1_W2
  have rs2_w3 := (hb3.cell rsL_W2).trans rs2_W2
  have rs3_w3 := (hb3.cell rsL_W2).trans rs3_W2
  have rs4_w3 := (hb3.cell rsL_W2).trans rs4_W2
  have rs5_w3 := (hb3.cell rsL_W2).trans rs5_W2
  have rs6_w3 := (hb3.cell rsL_W2).trans rs6_W2
  have rs7_w3 := (hb3.cell rsL_W2).trans rs7_W2
  have rsF_w3 : ∀ o, w3.frozen? ⟨w.heap.size + 1, o, none⟩ = false := fun o => (hb3.frozen rsL_W2).trans (rsF_W2 o)
  have rsL_w3 : w.heap.size + 1 < w3.heap.size := Nat.lt_of_lt_of_le rsL_W2 hb3.size
  have acc_w3 := hidP (acc_W2.out.trans (hb3.mono acc_W2.out.size))
  have sz_w3 : Hid (W2.heap.size ≤ w3.heap.size) := hidP hb3.size
  clear hb3 bk0_W2 bk1_W2 bkF_W2 bkL_W2 rs0_W2 rs1_W2 rs2_W2 rs3_W2 rs4_W2 rs5_W2 rs6_W2 rs7_W2 rsF_W2 rsL_W2 acc_W2
  go_wp2_with fail
  refine (HOw.out _ acc_w3.out).mono ?_
  rintro e w4 ⟨a4, c4, b4, d4, rfl, og4, oh4, nq4, hb4⟩
  have OX := hidP (And.intro og4 (And.intro oh4 nq4))
  clear og4 oh4 nq4
  have bk0_w4 := (hb4.cell bkL_w3).trans bk0_w3
  have bk1_w4 := (hb4.cell bkL_w3).trans bk1_w3
  have bkF_w4 : ∀ o, w4.frozen? ⟨w.heap.size, o, none⟩ = false := fun o => (hb4.frozen bkL_w3).trans (bkF_w3 o)
  have bkL_w4 : w.heap.size < w4.heap.size := Nat.lt_of_lt_of_le bkL_w3 hb4.size
  have rs0_w4 := (hb4.cell rsL_w3).trans rs0_w3
  have rs1_w4 := (hb4.cell rsL_w3).trans rs1_w3
  have rs2_w4 := (hb4.cell rsL_w3).trans rs2_w3
  have rs3_w4 := (hb4.cell rsL_w3).trans rs3_w3
  have rs4_w4 := (hb4.cell rsL_w3).trans rs4_w3
  have rs5_w4 := (hb4.cell rsL_w3).trans rs5_w3
  have rs6_w4 := (hb4.cell rsL_w3).trans rs6_w3
  have rs7_w4 := (hb4.cell rsL_w3).trans rs7_w3
  have rsF_w4 : ∀ o, w4.frozen? ⟨w.heap.size + 1, o, none⟩ = false := fun o => (hb4.frozen rsL_w3).trans (rsF_w3 o)
  have rsL_w4 : w.heap.size + 1 < w4.heap.size := Nat.lt_of_lt_of_le rsL_w3 hb4.size
  have acc_w4 := hidP (acc_w3.out.trans (hb4.mono acc_w3.out.size))
  have sz_w4 : Hid (w3.heap.size ≤ w4.heap.size) := hidP hb4.size
  clear hb4 bk0_w3 bk1_w3 bkF_w3 bkL_w3 rs0_w3 rs1_w3 rs2_w3 rs3_w3 rs4_w3 rs5_w3 rs6_w3 rs7_w3 rsF_w3 rsL_w3 acc_w3
  have oP_w4 := hidP (OX.out.1)
  have lhP : Hid (∀ k, (Value.slice a4 np c4).ownBlock = some k → w3.heap.size ≤ k ∧ k < w4.heap.size) := hidP (fun k hk => OwnG.lt oP_w4.out k hk)
  have oQ_w4 := hidP (OX.out.2.1)
  have lhQ : Hid (∀ k, (Value.slice b4 nb d4).ownBlock = some k → w3.heap.size ≤ k ∧ k < w4.heap.size) := hidP (fun k hk => OwnG.lt oQ_w4.out k hk)
  have ne4 := hidP OX.out.2.2
  clear OX
  go_wp2_with fail
  refine bodyPost_ret (v := .agg #[.int .i64 0, .int .i64 0, .int .i64 0, .int .i64 0, .slice a4 np c4, .slice b4 nb d4, .slice none 0 0, .slice none 0 0]) (by simp [results, Try.results55, go_sem, rs0_w4, rs1_w4, rs2_w4, rs3_w4, rs4_w4, rs5_w4, rs6_w4, rs7_w4]) rfl ⟨_, _, _, _, rfl, ?_, ?_, ne4.out, ?_⟩
  · refine OwnG.mono (B := w3.heap.size) ?_ (by have := as_W1.out; have := sz_W1.out; have := as_W2.out; have := sz_W2.out; have := sz_w3.out; have := sz_w4.out; omega)
    iterate 8 (with_reducible refine OwnG.grown ?_ (grown_cellG _ _ _ _) ?_; rotate_left; (focus (exact OwnG.ne_of oP_w4.out (by have := as_W1.out; have := sz_W1.out; have := as_W2.out; have := sz_W2.out; have := sz_w3.out; have := sz_w4.out; omega))))
    with_reducible exact oP_w4.out
  · refine OwnG.mono (B := w3.heap.size) ?_ (by have := as_W1.out; have := sz_W1.out; have := as_W2.out; have := sz_W2.out; have := sz_w3.out; have := sz_w4.out; omega)
    iterate 8 (with_reducible refine OwnG.grown ?_ (grown_cellG _ _ _ _) ?_; rotate_left; (focus (exact OwnG.ne_of oQ_w4.out (by have := as_W1.out; have := sz_W1.out; have := as_W2.out; have := sz_W2.out; have := sz_w3.out; have := sz_w4.out; omega))))
    with_reducible exact oQ_w4.out
  · repeat (with_reducible refine Below.setCell ?_ ?_ _; rotate_left; (focus (first | (simp; done) | (simp; omega) | (dsimp only; have := as_W1.out; have := sz_W1.out; have := as_W2.out; have := sz_W2.out; have := sz_w3.out; have := sz_w4.out; omega))))
    exact acc_w4.out

end Go.Proofs.Ytlhddiikbfobjaa

/-
  A Keep in a box: its rows are one's own, elsewhere than the box.
-/
namespace Go.Proofs.Ytlhddiikbfobjaa
open Go.ChangeShapes Go.WideShapes Go.ChangeAt Go.RowKit Go.Joins Go.Deep

/-- A box of cells. -/
structure Bx (x : World) (p : Nat) (vs : List Value) : Prop where
  cel : ∀ i v, vs[i]? = some v → x.cell? ⟨p, i, none⟩ = some v
  frz : ∀ o, x.frozen? ⟨p, o, none⟩ = false
  lt : p < x.heap.size
theorem Bx.set {x : World} {p : Nat} {vs : List Value} (h : Bx x p vs) (i : Nat) (u v : Value) (hu : vs[i]? = some u) : Bx (x.setCell ⟨p, i, none⟩ v) p (vs.set i v) := by
  refine ⟨fun j y hy => ?_, fun o => by simp [go_sem, h.frz], by simpa using h.lt⟩
  by_cases e : j = i
  · subst e
    have c := h.cel j u hu
    rw [List.getElem?_set_self (by rcases Nat.lt_or_ge j vs.length with h' | h'; exact h'; rw [List.getElem?_eq_none h'] at hu; cases hu)] at hy
    cases hy
    simp [go_sem, c]
  · rw [List.getElem?_set_ne (fun h => e h.symm)] at hy
    have c := h.cel j y hy
    have e' : ¬ i = j := fun h => e h.symm
    simp [go_sem, c]
theorem Bx.later {x y : World} {p : Nat} {vs : List Value} (h : Bx x p vs) (k : Below x.heap.size x y) : Bx y p vs :=
  ⟨fun i v hv => (k.cell (p := ⟨p, i, none⟩) h.lt).trans (h.cel i v hv), fun o => (k.frozen (p := ⟨p, o, none⟩) h.lt).trans (h.frz o), Nat.lt_of_lt_of_le h.lt k.size⟩
theorem Bx.far {x : World} {p : Nat} {vs : List Value} (h : Bx x p vs) {b i : Nat} (hb : b ≠ p) (v : Value) : Bx (x.setCell ⟨b, i, none⟩ v) p vs :=
  have hb' := hb.symm
  ⟨fun j y hy => by have c := h.cel j y hy; simp [go_sem, c], fun o => by simp [go_sem, h.frz], by simpa using h.lt⟩
theorem Bx.new (x : World) (vs : List Value) (t : TypeId) : Bx (x.alloc (.cells vs.toArray t)) x.heap.size vs :=
  ⟨fun i v hv => by simp [go_sem, hv], fun o => by simp [go_sem], by simp⟩
theorem Bx.kp {x y : World} {c p : Nat} {vs : List Value} (h : Bx x p vs) (k : Kp c x y) (hp : p ≠ c) : Bx y p vs :=
  ⟨fun i v hv => (k.cel p i h.lt hp).trans (h.cel i v hv), fun o => (k.frz p o h.lt hp).trans (h.frz o), Nat.lt_of_lt_of_le h.lt k.big⟩
theorem Bx.grown {x y : World} {p : Nat} {row : Option Nat} {vs : List Value} (h : Bx x p vs) (k : x.grownBy y row) (hp : some p ≠ row) : Bx y p vs := by
  have hb : y.heap[p]? = x.heap[p]? := k.block p h.lt hp
  exact ⟨fun i v hv => (World.cell?_of_block (w := x) hb).trans (h.cel i v hv), fun o => (World.frozen?_of_block (w := x) (a := ⟨p, o, none⟩) hb).trans (h.frz o), Nat.lt_of_lt_of_le h.lt k.size⟩
theorem kpt_kp {c : Nat} {X Y : World} (k : Kp c X Y) : Kpt (fun q => q ≠ c) X Y := ⟨k.low.os, k.low.tape, k.low.output, k.big, fun q hq hc => k.blk q hq hc⟩
theorem kpt_cell (X : World) (b i : Nat) (v : Value) : Kpt (fun q => q ≠ b) X (X.setCell ⟨b, i, none⟩ v) := ⟨rfl, rfl, rfl, by simp [World.setCell], fun k _ hk => Below.heap_setCell X ⟨b, i, none⟩ v k hk⟩
/-- An entry whose bytes lie in a row of one's own, elsewhere than the log. -/
structure EnS (X : World) (B kb : Nat) (e : En) : Prop where
  hn : e.n = e.zs.length
  ho : Oct e.zs
  n4 : e.n ≤ 400
  own : OwnG KBy 5 X B (.slice e.a e.n e.c) e.zs
  nk : ∀ q, (Value.slice e.a e.n e.c).ownBlock = some q → q ≠ kb
/-- A Keep's rows, elsewhere than the box kb. -/
structure KR (X : World) (B kb : Nat) (k : Kv) (ss : List Int) : Prop where
  hg : k.gn = k.ps.length
  hh : k.hn = k.bs.length
  hs : k.sn = ss.length
  hl : k.ln = k.es.length
  og : OwnG KI 3 X B (.slice k.ga k.gn k.gc) k.ps
  oh : OwnG KI 3 X B (.slice k.ha k.hn k.hc) k.bs
  os : OwnG KBy 5 X B (.slice k.sa k.sn k.sc) ss
  oo : Oct ss
  ol : OwnG KEn 65 X B (.slice k.la k.ln k.lc) k.es
  oe : ∀ e ∈ k.es, EnS X B kb e
  ng : ∀ q, (Value.slice k.ga k.gn k.gc).ownBlock = some q → q ≠ kb
  nh : ∀ q, (Value.slice k.ha k.hn k.hc).ownBlock = some q → q ≠ kb
  ns : ∀ q, (Value.slice k.sa k.sn k.sc).ownBlock = some q → q ≠ kb
  nl : ∀ q, (Value.slice k.la k.ln k.lc).ownBlock = some q → q ≠ kb
theorem KR.kpt {X Y : World} {B kb : Nat} {k : Kv} {ss : List Int} {M : Nat → Prop} (h : KR X B kb k ss) (hk : Kpt M X Y) (hm : ∀ q, B ≤ q → q ≠ kb → M q) : KR Y B kb k ss :=
  ⟨h.hg, h.hh, h.hs, h.hl, h.og.kpt hk (fun q hq => hm q (h.og.lt q hq).1 (h.ng q hq)), h.oh.kpt hk (fun q hq => hm q (h.oh.lt q hq).1 (h.nh q hq)), h.os.kpt hk (fun q hq => hm q (h.os.lt q hq).1 (h.ns q hq)), h.oo, h.ol.kpt hk (fun q hq => hm q (h.ol.lt q hq).1 (h.nl q hq)),
    fun e he => have g := h.oe e he; ⟨g.hn, g.ho, g.n4, g.own.kpt hk (fun q hq => hm q (g.own.lt q hq).1 (g.nk q hq)), g.nk⟩, h.ng, h.nh, h.ns, h.nl⟩
theorem KR.kp {X Y : World} {B kb c : Nat} {k : Kv} {ss : List Int} (h : KR X B kb k ss) (hk : Kp c X Y) (hc : c < B) : KR Y B kb k ss := h.kpt (kpt_kp hk) (fun q hq _ => by omega)
theorem KR.bel {X Y : World} {B kb : Nat} {k : Kv} {ss : List Int} (h : KR X B kb k ss) (hk : Below X.heap.size X Y) : KR Y B kb k ss := h.kpt (Kpt.ofBelow (fun _ => True) hk) (fun _ _ _ => trivial)
theorem KR.set {X : World} {B kb : Nat} {k : Kv} {ss : List Int} (h : KR X B kb k ss) (i : Nat) (v : Value) : KR (X.setCell ⟨kb, i, none⟩ v) B kb k ss := h.kpt (kpt_cell X kb i v) (fun _ _ hq => hq)
theorem KR.low {X : World} {B kb b : Nat} {k : Kv} {ss : List Int} (h : KR X B kb k ss) (hb : b < B) (i : Nat) (v : Value) : KR (X.setCell ⟨b, i, none⟩ v) B kb k ss := h.kpt (kpt_cell X b i v) (fun q hq _ => by omega)
theorem KR.ints {X : World} {B kb : Nat} {k : Kv} {ss : List Int} (h : KR X B kb k ss) (T V Bs E : Int) : KR X B kb { k with T := T, V := V, B := Bs, E := E } ss := ⟨h.hg, h.hh, h.hs, h.hl, h.og, h.oh, h.os, h.oo, h.ol, h.oe, h.ng, h.nh, h.ns, h.nl⟩
theorem KR.snap {X : World} {B kb : Nat} {k : Kv} {ss zs : List Int} (h : KR X B kb k ss) {a : Option Addr} {n c : Nat} (hn : n = zs.length) (ho : Oct zs) (o : OwnG KBy 5 X B (.slice a n c) zs) (hq : ∀ q, (Value.slice a n c).ownBlock = some q → q ≠ kb) : KR X B kb { k with sa := a, sn := n, sc := c } zs := ⟨h.hg, h.hh, hn, h.hl, h.og, h.oh, o, ho, h.ol, h.oe, h.ng, h.nh, hq, h.nl⟩
theorem KR.read {X : World} {B kb : Nat} {k : Kv} {ss : List Int} (h : KR X B kb k ss) : KvR X k := ⟨h.hg, h.hh, h.hl, h.og.row, h.oh.row, h.ol.row, fun e he => ⟨(h.oe e he).hn, (h.oe e he).ho, (h.oe e he).own.row⟩⟩
theorem own_sep {α β : Type} {K : Kd α} {L : Kd β} {t u : TypeId} {X : World} {B C : Nat} {v x : Value} {ps : List α} {qs : List β} (h : OwnG K t X B v ps) (g : OwnG L u X C x qs) (hn : t ≠ u) : ∀ q, v.ownBlock = some q → x.ownBlock ≠ some q := by
  intro q hv hx
  rcases h.2 with ⟨rfl, _⟩ | ⟨b, c, cur, rfl, _, hr, _⟩
  · cases hv
  · rcases g.2 with ⟨rfl, _⟩ | ⟨b', c', cur', rfl, _, hr', _⟩
    · cases hx
    · have e1 : b = q := Option.some.inj hv
      have e2 : b' = q := Option.some.inj hx
      rw [e1] at hr
      rw [e2] at hr'
      rw [hr] at hr'
      have := Option.some.inj hr'
      simp at this
      exact hn this.2
/-- A Keep's cells. -/
def Kv.cs (k : Kv) : List Value := [.int .i64 k.T, .int .i64 k.V, .int .i64 k.B, .int .i64 k.E, .slice k.ga k.gn k.gc, .slice k.ha k.hn k.hc, .slice k.sa k.sn k.sc, .slice k.la k.ln k.lc]
theorem Bx.k8 {x : World} {p : Nat} {k : Kv} (h : Bx x p k.cs) : x.cell? ⟨p, 0, none⟩ = some (.int .i64 k.T) ∧ x.cell? ⟨p, 1, none⟩ = some (.int .i64 k.V) ∧ x.cell? ⟨p, 2, none⟩ = some (.int .i64 k.B) ∧ x.cell? ⟨p, 3, none⟩ = some (.int .i64 k.E) ∧ x.cell? ⟨p, 4, none⟩ = some (.slice k.ga k.gn k.gc) ∧ x.cell? ⟨p, 5, none⟩ = some (.slice k.ha k.hn k.hc) ∧ x.cell? ⟨p, 6, none⟩ = some (.slice k.sa k.sn k.sc) ∧ x.cell? ⟨p, 7, none⟩ = some (.slice k.la k.ln k.lc) :=
  ⟨h.cel 0 _ rfl, h.cel 1 _ rfl, h.cel 2 _ rfl, h.cel 3 _ rfl, h.cel 4 _ rfl, h.cel 5 _ rfl, h.cel 6 _ rfl, h.cel 7 _ rfl⟩

end Go.Proofs.Ytlhddiikbfobjaa
