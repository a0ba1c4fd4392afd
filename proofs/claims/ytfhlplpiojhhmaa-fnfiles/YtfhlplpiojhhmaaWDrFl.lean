/-
  The specification's l11Draw and DrawFileCrash: some file of at most 19 bytes, and some number; nothing old turns.
-/
import Derived.Test.YtfhlplpiojhhmaaWBytes
import Derived.Test.YtfhlplpiojhhmaaX11
namespace Go.Proofs.Ytfhlplpiojhhmaa
open Go.RowKit

/-- While a file is drawn: the result's box is w's first new block. -/
structure FdI (w X : World) (c : Nat) (a : Option Addr) (len cap : Nat) : Prop where
  cur : Cur X c a len cap
  kp : Kp c w X
  hc : c < w.heap.size
  r0 : X.cell? ⟨w.heap.size, 0, none⟩ = some (.slice none 0 0)
  r1 : X.cell? ⟨w.heap.size, 1, none⟩ = some (.int .i64 0)
  rF : ∀ o, X.frozen? ⟨w.heap.size, o, none⟩ = false
  lt : w.heap.size < X.heap.size
theorem FdI.keep {w X Y : World} {c : Nat} {a : Option Addr} {len cap : Nat} (h : FdI w X c a len cap) (hC : Cur Y c a len cap) (k : Kp c X Y) : FdI w Y c a len cap := by
  have h1 := h.hc
  exact ⟨hC, h.kp.trans k, h.hc, (k.cel _ _ h.lt (by omega)).trans h.r0, (k.cel _ _ h.lt (by omega)).trans h.r1, fun o => (k.frz _ _ h.lt (by omega)).trans (h.rF o), Nat.lt_of_lt_of_le h.lt k.big⟩
theorem FdI.below {w X Y : World} {c : Nat} {a : Option Addr} {len cap : Nat} (h : FdI w X c a len cap) (k : Below X.heap.size X Y) : FdI w Y c a len cap := h.keep (h.cur.grew k) (Kp.of_below (Nat.lt_trans h.hc h.lt) k)
theorem FdI.set {w X : World} {c : Nat} {a : Option Addr} {len cap : Nat} (h : FdI w X c a len cap) {e o : Nat} (he : w.heap.size < e) (v : Value) : FdI w (X.setCell ⟨e, o, none⟩ v) c a len cap := by
  have h1 := h.hc
  exact ⟨h.cur.far (by omega) v, h.kp.setNew h.hc (Nat.le_of_lt he) v, h.hc, cell_set1 h.r0 (by omega), cell_set1 h.r1 (by omega), fun o => frz_set1 (h.rF o), by simpa using h.lt⟩
/-- And the file's own box is block e, its bytes lie in block g. -/
structure FdB (w X : World) (c : Nat) (a : Option Addr) (len cap e g n d : Nat) (N : Int) (zs : List Int) : Prop where
  op : FdI w X c a len cap
  he : w.heap.size < e
  hl : e < X.heap.size
  d0 : X.cell? ⟨e, 0, none⟩ = some (.slice (some ⟨g, 0, none⟩) n d)
  d1 : X.cell? ⟨e, 1, none⟩ = some (.int .i64 N)
  dF : ∀ o, X.frozen? ⟨e, o, none⟩ = false
  own : Own X (w.heap.size + 1) (.slice (some ⟨g, 0, none⟩) n d) zs
  ne : g ≠ e
theorem FdB.keep {w X Y : World} {c : Nat} {a : Option Addr} {len cap e g n d : Nat} {N : Int} {zs : List Int} (h : FdB w X c a len cap e g n d N zs) (hC : Cur Y c a len cap) (k : Kp c X Y) : FdB w Y c a len cap e g n d N zs := by
  have h1 := h.he; have h2 := h.hl; have h3 := h.op.hc
  exact ⟨h.op.keep hC k, h.he, Nat.lt_of_lt_of_le h.hl k.big, (k.cel _ _ h2 (by omega)).trans h.d0, (k.cel _ _ h2 (by omega)).trans h.d1, fun o => (k.frz _ _ h2 (by omega)).trans (h.dF o), h.own.kp k (by omega), h.ne⟩
theorem FdB.below {w X Y : World} {c : Nat} {a : Option Addr} {len cap e g n d : Nat} {N : Int} {zs : List Int} (h : FdB w X c a len cap e g n d N zs) (k : Below X.heap.size X Y) : FdB w Y c a len cap e g n d N zs :=
  h.keep (h.op.cur.grew k) (Kp.of_below (Nat.lt_trans h.op.hc h.op.lt) k)
theorem own_setB {X : World} {B e g n d o : Nat} {zs : List Int} (h : Own X B (.slice (some ⟨g, 0, none⟩) n d) zs) (hne : g ≠ e) (v : Value) : Own (X.setCell ⟨e, o, none⟩ v) B (.slice (some ⟨g, 0, none⟩) n d) zs :=
  own_by.1 (OwnG.grown (own_by.2 h) (grown_cellG _ _ _ _) (fun _ hk he => hne ((Option.some.inj hk).trans (Option.some.inj he).symm)))
theorem FdB.put1 {w X : World} {c : Nat} {a : Option Addr} {len cap e g n d : Nat} {N M : Int} {zs : List Int} (h : FdB w X c a len cap e g n d N zs) : FdB w (X.setCell ⟨e, 1, none⟩ (.int .i64 M)) c a len cap e g n d M zs :=
  ⟨h.op.set h.he _, h.he, by simpa using h.hl, by simp [go_sem, h.d0], by simp [go_sem, h.d1], fun o => frz_set1 (h.dF o), own_setB h.own h.ne _, h.ne⟩
theorem FdB.fin {w X : World} {c : Nat} {a : Option Addr} {len cap e g n d : Nat} {N : Int} {zs : List Int} (h : FdB w X c a len cap e g n d N zs) (u v : Value) :
    Own ((X.setCell ⟨w.heap.size, 0, none⟩ u).setCell ⟨w.heap.size, 1, none⟩ v) w.heap.size (.slice (some ⟨g, 0, none⟩) n d) zs ∧ Cur ((X.setCell ⟨w.heap.size, 0, none⟩ u).setCell ⟨w.heap.size, 1, none⟩ v) c a len cap ∧ Kp c w ((X.setCell ⟨w.heap.size, 0, none⟩ u).setCell ⟨w.heap.size, 1, none⟩ v) := by
  have hg := (Own.lt h.own g rfl).1
  exact ⟨Own.mono (own_setB (own_setB h.own (by omega) _) (by omega) _) (by omega), (h.op.cur.far h.op.hc _).far h.op.hc _, (h.op.kp.setNew h.op.hc (Nat.le_refl _) _).setNew h.op.hc (Nat.le_refl _) _⟩

set_option maxRecDepth 10000 in
set_option maxHeartbeats 4000000 in
theorem l11Draw_any (c : Nat) (a : Option Addr) (len cap : Nat) (w : World) (hC : Cur w c a len cap) :
    Calls Try.prog 26 #[.pointer (some ⟨c, 0, none⟩)] w fun e w' => (∃ (g n d : Nat) (N : Int) (zs : List Int), n = zs.length ∧ n < 20 ∧ -1 ≤ N ∧ N ≤ (n : Int) + 1 ∧ e = .returned (.agg #[.slice (some ⟨g, 0, none⟩) n d, .int .i64 N]) ∧ Own w' w.heap.size (.slice (some ⟨g, 0, none⟩) n d) zs) ∧ Cur w' c a len cap ∧ Kp c w w' := by
  have hc := hC.lt
  have H1 := hidP (show FdI w (w.alloc (.cells #[.slice none 0 0, .int .i64 0] 25)) c a len cap from ⟨hC.more _, (Kp.refl _ _).more hc _, hc, by simp [go_sem], by simp [go_sem], fun o => by simp [go_sem], by simp⟩)
  clear hC
  go_enter Try.func26, Try.ntmps26
  go_wp2_with fail
  generalize w.alloc (.cells #[.slice none 0 0, .int .i64 0] 25) = W1 at *
  refine (l1Below_any c a len cap 20 _ H1.out.cur).mono ?_
  rintro e w2 ⟨⟨x, x0, x9, rfl⟩, hC2, hK2⟩
  have H2 := hidP (H1.out.keep hC2 hK2)
  have x8 := x9 (by omega)
  obtain ⟨n, rfl⟩ := Int.eq_ofNat_of_zero_le x0
  clear hC2 hK2 H1 x9 x0
  go_wp2_with fail
  refine (l1Bytes_any c a len cap n (by omega) _ H2.out.cur).mono ?_
  rintro e w3 ⟨⟨g, d, zs, hn, ho, rfl, hown⟩, hC3, hK3⟩
  have H3 := hidP (H2.out.keep hC3 hK3)
  have HO := hidP (Own.mono hown (show w.heap.size + 1 ≤ w2.heap.size from H2.out.lt))
  have HN := hidP hn.symm
  have hnw : n < 20 := by omega
  have ew : IntKind.i64.wrap ((n : Int) + 1) = (n : Int) + 1 := by rw [IntKind.wrap_i64]; omega
  clear hC3 hK3 H2 hown hn ho x8
  go_wp2_with fail
  refine (l1Below_any c a len cap _ _ H3.out.cur).mono ?_
  rintro e w4 ⟨⟨N, N0, N9, rfl⟩, hC4, hK4⟩
  have H4 := hidP (H3.out.keep hC4 hK4)
  have HO4 := hidP (HO.out.kp hK4 (by omega))
  have hN1 : -1 ≤ N := by omega
  have hN2 : N ≤ (n : Int) + 1 := by have := N9 (by omega); omega
  clear hC4 hK4 H3 HO N9 N0
  go_wp2_with fail
  have H5 := hidP (show FdB w (w4.alloc (.cells #[.slice (some ⟨g, 0, none⟩) n d, .int .i64 N] 25)) c a len cap w4.heap.size g n d N zs from by
    have zb := alloc_below w4 (.cells #[.slice (some ⟨g, 0, none⟩) n d, .int .i64 N] 25)
    exact ⟨H4.out.below zb, H4.out.lt, alloc_lt _ _, by simp [go_sem], by simp [go_sem], fun o => by simp [go_sem], HO4.out.later zb, Nat.ne_of_lt (Own.lt HO4.out g rfl).2⟩)
  have HL4 := hidP H4.out.lt
  generalize w4.alloc (.cells #[.slice (some ⟨g, 0, none⟩) n d, .int .i64 N] 25) = W5 at *
  generalize w4.heap.size = E at *
  clear H4 HO4
  refine (l1Once_any c a len cap 10 _ H5.out.op.cur).mono ?_
  rintro e w6 ⟨⟨B, rfl⟩, hC6, hK6⟩
  have H6 := hidP (H5.out.keep hC6 hK6)
  clear hC6 hK6 H5
  have hE := HL4.out
  have nA : ¬ (E = w.heap.size) := by omega
  have nB : ¬ (w.heap.size = E) := by omega
  cases B
  · have p0 := H6.out.d0
    have p1 := H6.out.d1
    have r0 := H6.out.op.r0
    have r1 := H6.out.op.r1
    have rF := H6.out.op.rF
    go_wp2_with fail
    have hF := H6.out.fin (.slice (some ⟨g, 0, none⟩) n d) (.int .i64 N)
    refine bodyPost_ret (v := .agg #[.slice (some ⟨g, 0, none⟩) n d, .int .i64 N]) (by simp [results, Try.results26, go_sem, r0, r1]) rfl ⟨⟨g, n, d, N, zs, HN.out, hnw, hN1, hN2, rfl, hF.1⟩, hF.2.1, hF.2.2⟩
  · go_wp2_with fail
    have H7 := hidP (H6.out.below (alloc_below w6 (.cells #[.int .i64 (-1), .int .i64 ((n : Int) + 1)] 3)))
    have hv : ∀ j, j < 2 → ∃ z : Int, (-1 ≤ z ∧ z ≤ (n : Int) + 1) ∧ (w6.alloc (.cells #[.int .i64 (-1), .int .i64 ((n : Int) + 1)] 3)).cell? ⟨w6.heap.size, j, none⟩ = some (.int .i64 z) := fun j hj => by
      match j, hj with
      | 0, _ => exact ⟨-1, by omega, by simp [go_sem]⟩
      | 1, _ => exact ⟨(n : Int) + 1, by omega, by simp [go_sem]⟩
    have hq := alloc_lt w6 (.cells #[.int .i64 (-1), .int .i64 ((n : Int) + 1)] 3)
    have hqc : w6.heap.size ≠ c := by have := H6.out.op.lt; omega
    have HV := hidP hv
    generalize w6.alloc (.cells #[.int .i64 (-1), .int .i64 ((n : Int) + 1)] 3) = W7 at *
    clear H6 hv
    refine (l1Int_any (fun z => -1 ≤ z ∧ z ≤ (n : Int) + 1) c a len cap w6.heap.size 2 _ H7.out.op.cur (by omega) (by omega) hq hqc HV.out).mono ?_
    rintro e w8 ⟨⟨M, ⟨hM1, hM2⟩, rfl⟩, hC8, hK8⟩
    have H8 := hidP (H7.out.keep hC8 hK8)
    clear hC8 hK8 H7 HV hq hqc
    have p0 := H8.out.d0
    have p1 := H8.out.d1
    have pF := H8.out.dF
    have r0 := H8.out.op.r0
    have r1 := H8.out.op.r1
    have rF := H8.out.op.rF
    go_wp2_with fail
    have hF := (FdB.put1 (M := M) H8.out).fin (.slice (some ⟨g, 0, none⟩) n d) (.int .i64 M)
    refine bodyPost_ret (v := .agg #[.slice (some ⟨g, 0, none⟩) n d, .int .i64 M]) (by simp [results, Try.results26, go_sem, r0, r1]) rfl ⟨⟨g, n, d, M, zs, HN.out, hnw, hM1, hM2, rfl, hF.1⟩, hF.2.1, hF.2.2⟩

/-- While FnFiles draws: the result's box is w's first new block, the cursor its second; the file's bytes lie in block g. -/
structure FcI (w X : World) (a : Option Addr) (len cap : Nat) : Prop where
  cur : Cur X (w.heap.size + 1) a len cap
  low : Below w.heap.size w X
  r0 : X.cell? ⟨w.heap.size, 0, none⟩ = some (.slice none 0 0)
  r1 : X.cell? ⟨w.heap.size, 1, none⟩ = some (.int .i64 0)
  rF : ∀ o, X.frozen? ⟨w.heap.size, o, none⟩ = false
theorem FcI.keep {w X Y : World} {a : Option Addr} {len cap : Nat} (h : FcI w X a len cap) (hC : Cur Y (w.heap.size + 1) a len cap) (k : Kp (w.heap.size + 1) X Y) : FcI w Y a len cap :=
  ⟨hC, h.low.trans (k.low.mono (by omega)), (k.low.cell (by dsimp only; omega)).trans h.r0, (k.low.cell (by dsimp only; omega)).trans h.r1, fun o => (k.low.frozen (by dsimp only; omega)).trans (h.rF o)⟩

set_option maxRecDepth 10000 in
set_option maxHeartbeats 4000000 in
theorem drawFileCrash_any (a : Option Addr) (len cap : Nat) (w : World) (hBy : Bytes w a len) (hl : len ≤ 1048576) :
    Calls Try.prog 8 #[.slice a len cap] w fun e w' => ∃ (g n d : Nat) (N K : Int) (zs : List Int), n = zs.length ∧ n < 20 ∧ -1 ≤ N ∧ N ≤ (n : Int) + 1 ∧ -1 ≤ K ∧ K ≤ 100 ∧ e = .returned (.tuple #[.agg #[.slice (some ⟨g, 0, none⟩) n d, .int .i64 N], .int .i64 K]) ∧ OwnG KBy 5 w' w.heap.size (.slice (some ⟨g, 0, none⟩) n d) zs ∧ Below w.heap.size w w' := by
  have HBy := hidP hBy
  clear hBy
  go_enter Try.func8, Try.ntmps8
  go_wp2_with fail
  have zb1 := alloc_below w (.cells #[.slice none 0 0, .int .i64 0] 25)
  have zs1 : (w.alloc (.cells #[.slice none 0 0, .int .i64 0] 25)).heap.size = w.heap.size + 1 := by simp
  have q0 : (w.alloc (.cells #[.slice none 0 0, .int .i64 0] 25)).cell? ⟨w.heap.size, 0, none⟩ = some (.slice none 0 0) := by simp [go_sem]
  have q1 : (w.alloc (.cells #[.slice none 0 0, .int .i64 0] 25)).cell? ⟨w.heap.size, 1, none⟩ = some (.int .i64 0) := by simp [go_sem]
  have qF : ∀ o, (w.alloc (.cells #[.slice none 0 0, .int .i64 0] 25)).frozen? ⟨w.heap.size, o, none⟩ = false := fun o => by simp [go_sem]
  generalize w.alloc (.cells #[.slice none 0 0, .int .i64 0] 25) = W1 at *
  have hB1 : Bytes W1 a len := fun j hj => by
    obtain ⟨p, o, v, ha, hp, cv, v0, v9⟩ := HBy.out j hj
    exact ⟨p, o, v, ha, by omega, (zb1.cell hp).trans cv, v0, v9⟩
  refine (l1New_any a len cap W1 hB1 hl).mono ?_
  rintro e w2 ⟨rfl, hC2, hb2, hs2⟩
  rw [zs1] at hC2
  have H2 := hidP (show FcI w w2 a len cap from ⟨hC2, zb1.trans (hb2.mono zb1.size), (hb2.cell (by dsimp only; omega)).trans q0, (hb2.cell (by dsimp only; omega)).trans q1, fun o => (hb2.frozen (by dsimp only; omega)).trans (qF o)⟩)
  rw [zs1]
  clear hB1 hC2 hb2 hs2 q0 q1 qF zb1 zs1 HBy
  go_wp2_with fail
  refine (l11Draw_any (w.heap.size + 1) a len cap w2 H2.out.cur).mono ?_
  rintro e w3 ⟨⟨g, n, d, N, zs, hn, hn2, hN1, hN2, rfl, hown⟩, hC3, hK3⟩
  have H3 := hidP (H2.out.keep hC3 hK3)
  have hw2 := H2.out.cur.lt
  have HO := hidP (Own.mono hown (show w.heap.size + 2 ≤ w2.heap.size from hw2))
  have HN := hidP hn
  clear hC3 hK3 H2 hown hn hw2
  go_wp2_with fail
  have zb := alloc_below w3 (.cells #[.int .i64 0, .int .i64 1, .int .i64 3, .int .i64 100, .int .i64 (-1)] 3)
  have hC4 := H3.out.cur.grew zb
  have H4 := hidP (H3.out.keep hC4 (Kp.of_below H3.out.cur.lt zb))
  have HO4 := hidP (HO.out.later zb)
  have hv : ∀ j, j < 5 → ∃ z : Int, (-1 ≤ z ∧ z ≤ 100) ∧ (w3.alloc (.cells #[.int .i64 0, .int .i64 1, .int .i64 3, .int .i64 100, .int .i64 (-1)] 3)).cell? ⟨w3.heap.size, j, none⟩ = some (.int .i64 z) := fun j hj => by
    match j, hj with
    | 0, _ => exact ⟨0, by omega, by simp [go_sem]⟩
    | 1, _ => exact ⟨1, by omega, by simp [go_sem]⟩
    | 2, _ => exact ⟨3, by omega, by simp [go_sem]⟩
    | 3, _ => exact ⟨100, by omega, by simp [go_sem]⟩
    | 4, _ => exact ⟨-1, by omega, by simp [go_sem]⟩
  have hq := alloc_lt w3 (.cells #[.int .i64 0, .int .i64 1, .int .i64 3, .int .i64 100, .int .i64 (-1)] 3)
  have hqc : w3.heap.size ≠ w.heap.size + 1 := by have := H3.out.cur.lt; omega
  have HV := hidP hv
  generalize w3.alloc (.cells #[.int .i64 0, .int .i64 1, .int .i64 3, .int .i64 100, .int .i64 (-1)] 3) = W4 at *
  clear H3 HO hv zb hC4
  refine (l1Int_any (fun z => -1 ≤ z ∧ z ≤ 100) (w.heap.size + 1) a len cap w3.heap.size 5 _ H4.out.cur (by omega) (by omega) hq hqc HV.out).mono ?_
  rintro e w5 ⟨⟨K, ⟨hK1, hK2⟩, rfl⟩, hC5, hK5⟩
  have H5 := hidP (H4.out.keep hC5 hK5)
  have HO5 := hidP (HO4.out.kp hK5 (by omega))
  clear hC5 hK5 H4 HV hq hqc HO4
  have r0 := H5.out.r0
  have r1 := H5.out.r1
  have rF := H5.out.rF
  go_wp2_with fail
  have hg := (Own.lt HO5.out g rfl).1
  refine bodyPost_ret (v := .tuple #[.agg #[.slice (some ⟨g, 0, none⟩) n d, .int .i64 N], .int .i64 K]) (by simp [results, Try.results8, go_sem, r0, r1]) rfl ⟨g, n, d, N, K, zs, HN.out, hn2, hN1, hN2, hK1, hK2, rfl, ?_, ?_⟩
  · exact own_by.2 (Own.mono (own_setB (own_setB HO5.out (by omega) _) (by omega) _) (by omega))
  · exact (H5.out.low.setCell (Nat.le_refl _) _).setCell (Nat.le_refl _) _

end Go.Proofs.Ytfhlplpiojhhmaa
