/-
  What lies in memory while a book is drawn: the cursor, the book's box, the result's box, the row of leases; what keeps it; the specification's three steps.
-/
import Derived.Test.YtddnofonodgneaaGreatDoorWNew
import Derived.Test.YtddnofonodgneaaGreatDoorV6SGy
import Derived.Test.YtddnofonodgneaaGreatDoorV6SRl
import Derived.Test.YtddnofonodgneaaGreatDoorV6SAd
namespace Go.Proofs.YtddnofonodgneaaGreatDoor
open Go.RowKit

theorem OwnG.kp {α : Type} {K : Kd α} {t : TypeId} {c B : Nat} {X Y : World} {v : Value} {ps : List α} (h : OwnG K t X B v ps) (k : Kp c X Y) (hB : c < B) : OwnG K t Y B v ps := by
  refine ⟨h.1, ?_⟩
  rcases h.2 with h' | ⟨g, cc, cur, h1, h2, h3, h4⟩
  · exact Or.inl h'
  · refine Or.inr ⟨g, cc, cur, h1, h2, ?_, h4⟩
    have hgl : g < X.heap.size := by
      rcases Nat.lt_or_ge g X.heap.size with h' | h'
      · exact h'
      · rw [Array.getElem?_eq_none h'] at h3; cases h3
    exact (k.blk g hgl (by omega)).trans h3
def Sml (ls : List Ls) : Prop := ∀ q ∈ ls, q.t.size ≤ 100
theorem Sml.st {ls : List Ls} (h : Sml ls) : ∀ q ∈ ls, q.t.size ≤ 9223372036854775807 := fun q hq => by have := h q hq; omega
/-- W: the world at the draw's beginning; X: the world at hand; the result's box is W's first new block, the book's box its second; the leases lie behind them. -/
structure BkI (c : Nat) (a : Option Addr) (len cap : Nat) (W X : World) (b : Option Addr) (n d : Nat) (K N : Int) (ls : List Ls) : Prop where
  cur : Cur X c a len cap
  kp : Kp c W X
  hc : c < W.heap.size
  sz : W.heap.size + 2 ≤ X.heap.size
  r0 : X.cell? ⟨W.heap.size, 0, none⟩ = some (.slice none 0 0)
  r1 : X.cell? ⟨W.heap.size, 1, none⟩ = some (.int .i64 0)
  r2 : X.cell? ⟨W.heap.size, 2, none⟩ = some (.int .i64 0)
  rF : ∀ o, X.frozen? ⟨W.heap.size, o, none⟩ = false
  d0 : X.cell? ⟨W.heap.size + 1, 0, none⟩ = some (.slice b n d)
  d1 : X.cell? ⟨W.heap.size + 1, 1, none⟩ = some (.int .i64 K)
  d2 : X.cell? ⟨W.heap.size + 1, 2, none⟩ = some (.int .i64 N)
  dF : ∀ o, X.frozen? ⟨W.heap.size + 1, o, none⟩ = false
  own : OwnG KLs 35 X (W.heap.size + 2) (.slice b n d) ls
  few : n ≤ 100
  sml : Sml ls
theorem BkI.keep {c : Nat} {a : Option Addr} {len cap : Nat} {W X : World} {b : Option Addr} {n d : Nat} {K N : Int} {ls : List Ls} {Y : World} (h : BkI c a len cap W X b n d K N ls) (hC : Cur Y c a len cap) (k : Kp c X Y) : BkI c a len cap W Y b n d K N ls := by
  have h1 := h.hc; have h2 := h.sz; have h3 := k.big
  exact ⟨hC, h.kp.trans k, h.hc, by omega, (k.cel _ _ (by omega) (by omega)).trans h.r0, (k.cel _ _ (by omega) (by omega)).trans h.r1, (k.cel _ _ (by omega) (by omega)).trans h.r2, fun o => (k.frz _ _ (by omega) (by omega)).trans (h.rF o), (k.cel _ _ (by omega) (by omega)).trans h.d0, (k.cel _ _ (by omega) (by omega)).trans h.d1, (k.cel _ _ (by omega) (by omega)).trans h.d2, fun o => (k.frz _ _ (by omega) (by omega)).trans (h.dF o), h.own.kp k (by omega), h.few, h.sml⟩
theorem BkI.below {c : Nat} {a : Option Addr} {len cap : Nat} {W X : World} {b : Option Addr} {n d : Nat} {K N : Int} {ls : List Ls} {Y : World} (h : BkI c a len cap W X b n d K N ls) (k : Below X.heap.size X Y) : BkI c a len cap W Y b n d K N ls :=
  h.keep (h.cur.grew k) (Kp.of_below h.cur.lt k)
theorem BkI.drew {c : Nat} {a : Option Addr} {len cap : Nat} {W X : World} {b : Option Addr} {n d : Nat} {K N : Int} {ls : List Ls} (h : BkI c a len cap W X b n d K N ls) : BkI c a len cap W X.drew b n d K N ls := h.below (Below.refl _ _).drew
/-- What turns only blocks that are newer than the boxes, and not the row, keeps it. -/
theorem BkI.far {c : Nat} {a : Option Addr} {len cap : Nat} {W X : World} {b : Option Addr} {n d : Nat} {K N : Int} {ls : List Ls} {x o : Nat} (h : BkI c a len cap W X b n d K N ls) (hx : W.heap.size + 2 ≤ x) (hr : ∀ k, (Value.slice b n d).ownBlock = some k → k ≠ x) (v : Value) : BkI c a len cap W (X.setCell ⟨x, o, none⟩ v) b n d K N ls := by
  have h1 := h.hc; have h2 := h.sz
  exact ⟨h.cur.far (by omega) _, h.kp.setNew h.hc (by omega) _, h.hc, by simpa using h.sz, cell_set1 h.r0 (by omega), cell_set1 h.r1 (by omega), cell_set1 h.r2 (by omega), fun o => frz_set1 (h.rF o), cell_set1 h.d0 (by omega), cell_set1 h.d1 (by omega), cell_set1 h.d2 (by omega), fun o => frz_set1 (h.dF o), OwnG.grown h.own (grown_cellG _ _ _ _) (fun k hk e => hr k hk (by simpa using e.symm)), h.few, h.sml⟩
/-- A new book comes into the box. -/
theorem BkI.put {c : Nat} {a : Option Addr} {len cap : Nat} {W X : World} {b : Option Addr} {n d : Nat} {K N : Int} {ls : List Ls} (h : BkI c a len cap W X b n d K N ls) {b' : Option Addr} {n' d' : Nat} {K' N' : Int} {ls' : List Ls} {B : Nat} (hB : W.heap.size + 2 ≤ B) (ho : OwnG KLs 35 X B (.slice b' n' d') ls') (hn : n' ≤ 100) (hs : Sml ls') :
    BkI c a len cap W (((X.setCell ⟨W.heap.size + 1, 0, none⟩ (.slice b' n' d')).setCell ⟨W.heap.size + 1, 1, none⟩ (.int .i64 K')).setCell ⟨W.heap.size + 1, 2, none⟩ (.int .i64 N')) b' n' d' K' N' ls' := by
  have h1 := h.hc; have h2 := h.sz
  refine ⟨((h.cur.far (by omega) _).far (by omega) _).far (by omega) _, ?_, h.hc, by simpa using h.sz, cell_set1 (cell_set1 (cell_set1 h.r0 (by omega)) (by omega)) (by omega), cell_set1 (cell_set1 (cell_set1 h.r1 (by omega)) (by omega)) (by omega), cell_set1 (cell_set1 (cell_set1 h.r2 (by omega)) (by omega)) (by omega), fun o => frz_set1 (frz_set1 (frz_set1 (h.rF o))), by simp [go_sem, h.d0], by simp [go_sem, h.d1], by simp [go_sem, h.d2], fun o => frz_set1 (frz_set1 (frz_set1 (h.dF o))), ?_, hn, hs⟩
  · exact ((h.kp.setNew h.hc (by omega) _).setNew h.hc (by omega) _).setNew h.hc (by omega) _
  · exact OwnG.mono (OwnG.grown (OwnG.grown (OwnG.grown ho (grown_cellG _ _ _ _) (OwnG.ne_of ho (by omega))) (grown_cellG _ _ _ _) (OwnG.ne_of ho (by omega))) (grown_cellG _ _ _ _) (OwnG.ne_of ho (by omega))) hB
theorem BkI.fin {c : Nat} {a : Option Addr} {len cap : Nat} {W X : World} {b : Option Addr} {n d : Nat} {K N : Int} {ls : List Ls} (h : BkI c a len cap W X b n d K N ls) (u v x : Value) :
    Cur (((X.setCell ⟨W.heap.size, 0, none⟩ u).setCell ⟨W.heap.size, 1, none⟩ v).setCell ⟨W.heap.size, 2, none⟩ x) c a len cap ∧ Kp c W (((X.setCell ⟨W.heap.size, 0, none⟩ u).setCell ⟨W.heap.size, 1, none⟩ v).setCell ⟨W.heap.size, 2, none⟩ x) ∧ OwnG KLs 35 (((X.setCell ⟨W.heap.size, 0, none⟩ u).setCell ⟨W.heap.size, 1, none⟩ v).setCell ⟨W.heap.size, 2, none⟩ x) W.heap.size (.slice b n d) ls := by
  have h1 := h.hc; have h2 := h.sz
  exact ⟨((h.cur.far (by omega) _).far (by omega) _).far (by omega) _, ((h.kp.setNew h.hc (by omega) _).setNew h.hc (by omega) _).setNew h.hc (by omega) _, OwnG.mono (OwnG.grown (OwnG.grown (OwnG.grown h.own (grown_cellG _ _ _ _) (OwnG.ne_of h.own (by omega))) (grown_cellG _ _ _ _) (OwnG.ne_of h.own (by omega))) (grown_cellG _ _ _ _) (OwnG.ne_of h.own (by omega))) (by omega)⟩

set_option maxHeartbeats 1000000 in
theorem l1StrP_any (P : ByteArray → Prop) (c : Nat) (a : Option Addr) (len cap : Nat) (q k : Nat) (W : World) (hC : Cur W c a len cap) (hk : 0 < k) (hk1 : k ≤ 100) (hq : q < W.heap.size) (hqc : q ≠ c) (hv : ∀ j, j < k → ∃ z : ByteArray, P z ∧ W.cell? ⟨q, j, none⟩ = some (.string z)) :
    Calls Tryz.prog 22 #[.pointer (some ⟨c, 0, none⟩), .slice (some ⟨q, 0, none⟩) k k] W fun e W' => (∃ z : ByteArray, P z ∧ e = .returned (.string z)) ∧ Cur W' c a len cap ∧ Kp c W W' := by
  have HC : Hid (Cur W c a len cap) := hC
  have HV : Hid (∀ j, j < k → ∃ z : ByteArray, P z ∧ W.cell? ⟨q, j, none⟩ = some (.string z)) := hv
  clear hC hv
  go_enter Tryz.func22, Tryz.ntmps22
  go_wp2_with fail
  refine (l1Below_any c a len cap k _ HC.out).mono ?_
  rintro e W1 ⟨⟨x, x0, x9, rfl⟩, hC1, hK1⟩
  obtain ⟨j, rfl⟩ : ∃ j : Nat, x = (j : Int) := ⟨x.toNat, by omega⟩
  have hj : j < k := by omega
  obtain ⟨z, hz, hc⟩ := HV.out j hj
  have cv : W1.cell? ⟨q, j, none⟩ = some (.string z) := (hK1.cel q j hq hqc).trans hc
  have HZ := hidP hz
  have HK : Hid (Kp c W W1) := hK1
  have HC1 : Hid (Cur W1 c a len cap) := hC1
  clear hK1 hC1 x9 x0 hc hz
  go_wp2_with fail
  go_ret
  exact ⟨⟨z, HZ.out, rfl⟩, HC1.out, HK.out⟩

set_option maxHeartbeats 1000000 in
theorem l1Size_any (a : Option Addr) (len cap : Nat) (m : Int) (h3 : 3 ≤ m) (hl : len ≤ 1048576) (w : World) :
    Calls Tryz.prog 19 #[.slice a len cap, .int .i64 m] w fun e w' => (∃ x : Int, 0 < x ∧ x ≤ m ∧ e = .returned (.int .i64 x)) ∧ w' = w := by
  obtain ⟨z, hz⟩ : ∃ z : Int, (len : Int) / 12 = z := ⟨_, rfl⟩
  have hz0 : 0 ≤ z := by omega
  have hz9 : z ≤ 1000000 := by omega
  cases hd : decide (m < 3 + z)
  · have hd' := of_decide_eq_false hd
    go_enter Tryz.func19, Tryz.ntmps19
    go_wp2_with fail
    go_ret
    exact ⟨⟨3 + z, by omega, by omega, rfl⟩, rfl⟩
  · go_enter Tryz.func19, Tryz.ntmps19
    go_wp2_with fail
    go_ret
    exact ⟨⟨m, by omega, by omega, rfl⟩, rfl⟩

theorem cellsO (w : World) (t : TypeId) : ∀ j, j < 5 → ∃ z : ByteArray, z.size ≤ 100 ∧ (w.alloc (.cells #[.string ⟨#[97]⟩, .string ⟨#[98, 111, 98]⟩, .string ⟨#[110, 111, 100, 101, 45, 49]⟩, .string ⟨#[110, 111, 100, 101, 45, 50]⟩, .string ⟨#[97, 98, 99, 100, 101, 102, 103, 104, 105, 106, 107, 108]⟩] t)).cell? ⟨w.heap.size, j, none⟩ = some (.string z) := fun j hj => by
  match j, hj with
  | 0, _ => exact ⟨⟨#[97]⟩, by show 1 ≤ 100; omega, by simp [go_sem]⟩
  | 1, _ => exact ⟨⟨#[98, 111, 98]⟩, by show 3 ≤ 100; omega, by simp [go_sem]⟩
  | 2, _ => exact ⟨⟨#[110, 111, 100, 101, 45, 49]⟩, by show 6 ≤ 100; omega, by simp [go_sem]⟩
  | 3, _ => exact ⟨⟨#[110, 111, 100, 101, 45, 50]⟩, by show 6 ≤ 100; omega, by simp [go_sem]⟩
  | 4, _ => exact ⟨⟨#[97, 98, 99, 100, 101, 102, 103, 104, 105, 106, 107, 108]⟩, by show 12 ≤ 100; omega, by simp [go_sem]⟩
set_option maxHeartbeats 1000000 in
theorem l5Owner_any (c : Nat) (a : Option Addr) (len cap : Nat) (W : World) (hC : Cur W c a len cap) :
    Calls Tryz.prog 59 #[.pointer (some ⟨c, 0, none⟩)] W fun e W' => (∃ z : ByteArray, z.size ≤ 100 ∧ e = .returned (.string z)) ∧ Cur W' c a len cap ∧ Kp c W W' := by
  have HC := hidP hC
  have hcl := hC.lt
  clear hC
  go_enter Tryz.func59, Tryz.ntmps59
  go_wp2_with fail
  have zb := alloc_below W (.cells #[.string ⟨#[97]⟩, .string ⟨#[98, 111, 98]⟩, .string ⟨#[110, 111, 100, 101, 45, 49]⟩, .string ⟨#[110, 111, 100, 101, 45, 50]⟩, .string ⟨#[97, 98, 99, 100, 101, 102, 103, 104, 105, 106, 107, 108]⟩] 9)
  have zl := alloc_lt W (.cells #[.string ⟨#[97]⟩, .string ⟨#[98, 111, 98]⟩, .string ⟨#[110, 111, 100, 101, 45, 49]⟩, .string ⟨#[110, 111, 100, 101, 45, 50]⟩, .string ⟨#[97, 98, 99, 100, 101, 102, 103, 104, 105, 106, 107, 108]⟩] 9)
  have zc := cellsO W 9
  have HB := hidP zb
  have HC2 := hidP (HC.out.grew zb)
  generalize W.alloc (.cells #[.string ⟨#[97]⟩, .string ⟨#[98, 111, 98]⟩, .string ⟨#[110, 111, 100, 101, 45, 49]⟩, .string ⟨#[110, 111, 100, 101, 45, 50]⟩, .string ⟨#[97, 98, 99, 100, 101, 102, 103, 104, 105, 106, 107, 108]⟩] 9) = W2 at *
  refine (l1StrP_any (fun z => z.size ≤ 100) c a len cap W.heap.size 5 _ HC2.out (by omega) (by omega) zl (by omega) zc).mono ?_
  rintro e W3 ⟨⟨z, hz, rfl⟩, hC3, hK3⟩
  have HR := hidP (And.intro hz (And.intro hC3 hK3))
  clear hz hC3 hK3 zb zl zc
  go_wp2_with fail
  go_ret
  exact ⟨⟨z, HR.out.1, rfl⟩, HR.out.2.1, (Kp.of_below hcl HB.out).trans HR.out.2.2⟩
set_option maxHeartbeats 1000000 in
theorem l6Addr_any (c : Nat) (a : Option Addr) (len cap : Nat) (W : World) (hC : Cur W c a len cap) :
    Calls Tryz.prog 21 #[.pointer (some ⟨c, 0, none⟩)] W fun e W' => (∃ ad : Ad, e = .returned (.agg #[.bool ad.s, .int .i64 ad.H.toInt, .int .i64 ad.L.toInt])) ∧ Cur W' c a len cap ∧ Kp c W W' := by
  have HC := hidP hC
  have hcl := hC.lt
  clear hC
  go_enter Tryz.func21, Tryz.ntmps21
  go_wp2_with fail
  have zb := alloc_below W (.cells #[.bool false, .int .i64 0, .int .i64 0] 28)
  have zl := alloc_lt W (.cells #[.bool false, .int .i64 0, .int .i64 0] 28)
  obtain ⟨q0, q1, q2⟩ := box3B W 28 (.bool false) (.int .i64 0) (.int .i64 0)
  have qF := frz3 W 28 (.bool false) (.int .i64 0) (.int .i64 0)
  have HB := hidP zb
  have HC2 := hidP (HC.out.grew zb)
  generalize W.alloc (.cells #[.bool false, .int .i64 0, .int .i64 0] 28) = W2 at *
  refine (l1Below_any c a len cap 10 _ HC2.out).mono ?_
  rintro e W3 ⟨⟨x, x0, x9, rfl⟩, hC3, hK3⟩
  have x9' := x9 (by omega)
  have wx : IntKind.i64.wrap (167772160 + x) = 167772160 + x := by rw [IntKind.wrap_i64]; omega
  have p0 := (hK3.cel _ 0 zl (by omega)).trans q0
  have p1 := (hK3.cel _ 1 zl (by omega)).trans q1
  have p2 := (hK3.cel _ 2 zl (by omega)).trans q2
  have pF : ∀ o, W3.frozen? ⟨W.heap.size, o, none⟩ = false := fun o => (hK3.frz _ _ zl (by omega)).trans (qF o)
  have HR := hidP (And.intro hC3 ((Kp.of_below hcl HB.out).trans hK3))
  have hi : (BitVec.ofInt 64 (167772160 + x)).toInt = 167772160 + x := by
    rw [BitVec.toInt_ofInt]
    exact Int.bmod_eq_of_le (by omega) (by omega)
  have HI := hidP hi
  clear hC3 hK3 q0 q1 q2 qF zb zl x9 hi
  go_wp2_with fail
  refine bodyPost_ret (v := .agg #[.bool false, .int .i64 0, .int .i64 (167772160 + x)]) (by simp [results, Tryz.results21, go_sem, p0, p1, p2]) rfl ⟨⟨⟨false, 0, BitVec.ofInt 64 (167772160 + x)⟩, by simp [HI.out]⟩, ?_, ?_⟩
  · exact ((HR.out.1.far (by omega) _).far (by omega) _).far (by omega) _
  · exact ((HR.out.2.setNew hcl (Nat.le_refl _) _).setNew hcl (Nat.le_refl _) _).setNew hcl (Nat.le_refl _) _

theorem sml_sub {ls ls' : List Ls} (h : Sml ls) (hs : ∀ q ∈ ls', q ∈ ls) : Sml ls' := fun q hq => h q (hs q hq)
theorem sAdv12 (b : Option Addr) (n d : Nat) (K N : Int) (ls : List Ls) (w : World) (hn : n = ls.length) (hB : RowG KLs w b ls) (hc : b = none → d = 0) (h80 : n ≤ 80) (hs : Sml ls) (now : Int) :
    Calls Tryz.prog 57 #[.agg #[.slice b n d, .int .i64 K, .int .i64 N], .int .i64 now] w fun e w' => ∃ b' n' d' N' ls' v, e = .returned (.tuple #[.agg #[.slice b' n' d', .int .i64 K, .int .i64 N'], v]) ∧ OwnG KLs 35 w' w.heap.size (.slice b' n' d') ls' ∧ n' ≤ 80 ∧ Sml ls' ∧ Below w.heap.size w w' := by
  cases hr : (bkB ls K N && (decide (N < now) && decide (now ≤ 1000000000)))
  · exact (sAdv_no b n d K N ls w hn hB hc (by omega) hs.st now hr).mono fun e w' ⟨a', c', _, _, h1, h2, _, _, h5⟩ => ⟨a', n, c', N, ls, _, h1, h2, h80, hs, h5⟩
  · refine (sAdv_yes b n d K N ls w hn hB hc (by omega) hs.st now hr).mono fun e w' ⟨a', c', _, _, h1, h2, _, _, h5⟩ => ⟨a', _, c', now, _, _, h1, h2, ?_, sml_sub hs (fun q hq => (List.mem_filter.1 hq).1), h5⟩
    have := (stay_len now ls).1
    omega
theorem sRel12 (b : Option Addr) (n d : Nat) (K N : Int) (ls : List Ls) (w : World) (hn : n = ls.length) (hB : RowG KLs w b ls) (hc : b = none → d = 0) (h80 : n ≤ 80) (hs : Sml ls) (hnd : n ≤ d) (hd : d ≤ 9223372036854775807) (hbs : ∀ (_ : 0 < n), ∃ g, b = some ⟨g, 0, none⟩) (ad : Ad) (tk : Int) :
    Calls Tryz.prog 58 #[.agg #[.slice b n d, .int .i64 K, .int .i64 N], .agg #[.bool ad.s, .int .i64 ad.H.toInt, .int .i64 ad.L.toInt], .int .i64 tk] w fun e w' => ∃ b' n' d' ls' x, e = .returned (.tuple #[.agg #[.slice b' n' d', .int .i64 K, .int .i64 N], .int .i64 x]) ∧ OwnG KLs 35 w' w.heap.size (.slice b' n' d') ls' ∧ n' ≤ 80 ∧ Sml ls' ∧ Below w.heap.size w w' := by
  cases hr : (bkB ls K N && ad.ok)
  · exact (sRel_form b n d K N ls ad tk w hn hB (by omega) hc hs.st hr).mono fun e w' ⟨a', c', h1, h2, h3⟩ => ⟨a', n, c', ls, 10, h1, h2, h80, hs, h3⟩
  · cases hx : fxL ls ad with
    | none => exact (sRel_code b n d K N ls ad tk w hn hB (by omega) hc hs.st hr 13 (by omega) (fun W' hb => l6Held_none b n d K N ls ad tk W' hn (hB.later hb) (by omega) hx)).mono fun e w' ⟨a', c', h1, h2, h3⟩ => ⟨a', n, c', ls, 13, h1, h2, h80, hs, h3⟩
    | some I =>
      obtain ⟨q, hq, _, hI⟩ := fx_at hx
      by_cases hk : q.k = tk
      · obtain ⟨g, rfl⟩ := hbs (by omega)
        have hsub : ∀ x ∈ ls.eraseIdx I, x ∈ ls := fun x hx => List.mem_of_mem_eraseIdx hx
        by_cases hcj : d = I + 1
        · have hnI : n = I + 1 := by omega
          have hdn : d = n := by omega
          subst hdn
          exact (sRel_yes0 g d K N ls ad tk w hn hB (by omega) hs.st hr I (by omega) hnI (fun W' hb => l6Held_yes _ d d K N ls ad tk W' hn (hB.later hb) (by omega) I q hx hq hk)).mono fun e w' ⟨a', c', h1, h2, h3⟩ => ⟨a', d - 1, c', _, 0, h1, h2, by omega, sml_sub hs hsub, h3⟩
        · exact (sRel_yes1 g n d K N ls ad tk w hn hB (by omega) hs.st hr I (by omega) hnd hd hcj (fun W' hb => l6Held_yes _ n d K N ls ad tk W' hn (hB.later hb) (by omega) I q hx hq hk)).mono fun e w' ⟨a', c', h1, h2, h3⟩ => ⟨a', n - 1, c', _, 0, h1, h2, by omega, sml_sub hs hsub, h3⟩
      · exact (sRel_code b n d K N ls ad tk w hn hB (by omega) hc hs.st hr 14 (by omega) (fun W' hb => l6Held_fence b n d K N ls ad tk W' hn (hB.later hb) (by omega) I q hx hq hk)).mono fun e w' ⟨a', c', h1, h2, h3⟩ => ⟨a', n, c', ls, 14, h1, h2, h80, hs, h3⟩
theorem sGr12 (b : Option Addr) (n d : Nat) (K N : Int) (ls : List Ls) (w : World) (hn : n = ls.length) (hB : RowG KLs w b ls) (hc : b = none → d = 0) (h80 : n ≤ 80) (hs : Sml ls) (ad : Ad) (own : ByteArray) (ho : own.size ≤ 100) (span : Int) :
    Calls Tryz.prog 8 #[.agg #[.slice b n d, .int .i64 K, .int .i64 N], .agg #[.bool ad.s, .int .i64 ad.H.toInt, .int .i64 ad.L.toInt], .string own, .int .i64 span] w fun e w' => ∃ b' n' d' K' ls' x y, e = .returned (.tuple #[.agg #[.slice b' n' d', .int .i64 K', .int .i64 N], .int .i64 x, .int .i64 y]) ∧ OwnG KLs 35 w' w.heap.size (.slice b' n' d') ls' ∧ n' ≤ 80 ∧ Sml ls' ∧ Below w.heap.size w w' := by
  have hos : own.size ≤ 9223372036854775807 := by omega
  cases hr : gokB ls K N ad own span
  · exact (sGr_form b n d K N ls ad own span w hn hB (by omega) hc hs.st hos hr).mono fun e w' ⟨a', c', h1, h2, h3⟩ => ⟨a', n, c', K, ls, 0, 10, h1, h2, h80, hs, h3⟩
  · have hr0 := hr
    unfold gokB at hr0
    simp only [Bool.and_eq_true] at hr0
    cases hx : fxL ls ad with
    | some I => exact (sGr_held b n d K N ls ad own span w hn hB (by omega) hc hs.st hos hr I hx).mono fun e w' ⟨a', c', h1, h2, h3⟩ => ⟨a', n, c', K, ls, 0, 11, h1, h2, h80, hs, h3⟩
    | none =>
      by_cases hn80 : n = 80
      · exact (sGr_many b n d K N ls ad own span w hn hB (by omega) hc hs.st hos hr hx hn80).mono fun e w' ⟨a', c', h1, h2, h3⟩ => ⟨a', n, c', K, ls, 0, 12, h1, h2, h80, hs, h3⟩
      · obtain ⟨I, hI⟩ := low_ex (ad := ad) (srt_bk hr0.1).1
        refine (sGr_yes b n d K N ls ad own span w hn hB (by omega) hc hs.st hos hr hx (by omega) I hI).mono fun e w' ⟨a', c', h1, h2, h3⟩ => ⟨a', n + 1, c', K + 1, _, K + 1, 0, h1, h2, by omega, fun q hq => ?_, h3⟩
        rcases List.mem_append.1 hq with hq | hq
        · rcases List.mem_append.1 hq with hq | hq
          · exact hs q (List.mem_of_mem_take hq)
          · rw [List.mem_singleton] at hq; subst hq; exact ho
        · exact hs q (List.mem_of_mem_drop hq)

end Go.Proofs.YtddnofonodgneaaGreatDoor
