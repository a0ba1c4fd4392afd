/-
  What lies in memory while a desk is drawn: the cursor, the desk's box, the result's box, the row of sessions; what keeps it.
-/
import Derived.Test.YtjenbmiiikeenaaWNew
import Derived.Test.YtjenbmiiikeenaaV7SAn
import Derived.Test.YtjenbmiiikeenaaV7SCl
import Derived.Test.YtjenbmiiikeenaaV7SOp
import Derived.Test.YtjenbmiiikeenaaV7Fnd
namespace Go.Proofs.Ytjenbmiiikeenaa
open Go.RowKit

theorem OwnG.kp {α : Type} {K : Kd α} {t : TypeId} {c B : Nat} {X Y : World} {v : Value} {ps : List α} (h : OwnG K t X B v ps) (k : Kp c X Y) (hB : c < B) : OwnG K t Y B v ps := by
  refine ⟨h.1, ?_⟩
  rcases h.2 with h' | ⟨g, cc, cur, h1, h2, h3, h4⟩
  · exact Or.inl h'
  · refine Or.inr ⟨g, cc, cur, h1, h2, ?_, h4⟩
    have hgl : g < X.heap.size := by
      rcases Nat.lt_or_ge g X.heap.size with h' | h'
      · exact h'
      · rw [Array.getElem?_eq_none h'] at h3; cases h3
    exact (k.blk g hgl (by omega)).trans h3
/-- W: the world at the draw's beginning; X: the world at hand; the result's box is W's first new block, the desk's box its second; the sessions lie behind them. -/
structure DkI (c : Nat) (a : Option Addr) (len cap : Nat) (W X : World) (b : Option Addr) (n d : Nat) (N : Int) (ls : List Ss) : Prop where
  cur : Cur X c a len cap
  kp : Kp c W X
  hc : c < W.heap.size
  sz : W.heap.size + 2 ≤ X.heap.size
  r0 : X.cell? ⟨W.heap.size, 0, none⟩ = some (.slice none 0 0)
  r1 : X.cell? ⟨W.heap.size, 1, none⟩ = some (.int .i64 0)
  rF : ∀ o, X.frozen? ⟨W.heap.size, o, none⟩ = false
  d0 : X.cell? ⟨W.heap.size + 1, 0, none⟩ = some (.slice b n d)
  d1 : X.cell? ⟨W.heap.size + 1, 1, none⟩ = some (.int .i64 N)
  dF : ∀ o, X.frozen? ⟨W.heap.size + 1, o, none⟩ = false
  own : OwnG KSs 39 X (W.heap.size + 2) (.slice b n d) ls
  few : n ≤ 12
theorem DkI.keep {c : Nat} {a : Option Addr} {len cap : Nat} {W X Y : World} {b : Option Addr} {n d : Nat} {N : Int} {ls : List Ss} (h : DkI c a len cap W X b n d N ls) (hC : Cur Y c a len cap) (k : Kp c X Y) : DkI c a len cap W Y b n d N ls := by
  have h1 := h.hc; have h2 := h.sz; have h3 := k.big
  exact ⟨hC, h.kp.trans k, h.hc, by omega, (k.cel _ _ (by omega) (by omega)).trans h.r0, (k.cel _ _ (by omega) (by omega)).trans h.r1, fun o => (k.frz _ _ (by omega) (by omega)).trans (h.rF o), (k.cel _ _ (by omega) (by omega)).trans h.d0, (k.cel _ _ (by omega) (by omega)).trans h.d1, fun o => (k.frz _ _ (by omega) (by omega)).trans (h.dF o), h.own.kp k (by omega), h.few⟩
theorem DkI.below {c : Nat} {a : Option Addr} {len cap : Nat} {W X Y : World} {b : Option Addr} {n d : Nat} {N : Int} {ls : List Ss} (h : DkI c a len cap W X b n d N ls) (k : Below X.heap.size X Y) : DkI c a len cap W Y b n d N ls :=
  h.keep (h.cur.grew k) (Kp.of_below h.cur.lt k)
theorem DkI.drew {c : Nat} {a : Option Addr} {len cap : Nat} {W X : World} {b : Option Addr} {n d : Nat} {N : Int} {ls : List Ss} (h : DkI c a len cap W X b n d N ls) : DkI c a len cap W X.drew b n d N ls := h.below (Below.refl _ _).drew
theorem DkI.caps {c : Nat} {a : Option Addr} {len cap : Nat} {W X : World} {b : Option Addr} {n d : Nat} {N : Int} {ls : List Ss} (h : DkI c a len cap W X b n d N ls) : n = ls.length ∧ ls.length ≤ d ∧ d ≤ 9223372036854775807 ∧ (b = none → d = 0) := h.own.caps
/-- A new desk comes into the box. -/
theorem DkI.put {c : Nat} {a : Option Addr} {len cap : Nat} {W X : World} {b : Option Addr} {n d : Nat} {N : Int} {ls : List Ss} (h : DkI c a len cap W X b n d N ls) {b' : Option Addr} {n' d' : Nat} {N' : Int} {ls' : List Ss} {B : Nat} (hB : W.heap.size + 2 ≤ B) (ho : OwnG KSs 39 X B (.slice b' n' d') ls') (hn : n' ≤ 12) :
    DkI c a len cap W ((X.setCell ⟨W.heap.size + 1, 0, none⟩ (.slice b' n' d')).setCell ⟨W.heap.size + 1, 1, none⟩ (.int .i64 N')) b' n' d' N' ls' := by
  have h1 := h.hc; have h2 := h.sz
  refine ⟨(h.cur.far (by omega) _).far (by omega) _, ?_, h.hc, by simpa using h.sz, cell_set1 (cell_set1 h.r0 (by omega)) (by omega), cell_set1 (cell_set1 h.r1 (by omega)) (by omega), fun o => frz_set1 (frz_set1 (h.rF o)), by simp [go_sem, h.d0], by simp [go_sem, h.d1], fun o => frz_set1 (frz_set1 (h.dF o)), ?_, hn⟩
  · exact (h.kp.setNew h.hc (by omega) _).setNew h.hc (by omega) _
  · exact OwnG.mono (OwnG.grown (OwnG.grown ho (grown_cellG _ _ _ _) (OwnG.ne_of ho (by omega))) (grown_cellG _ _ _ _) (OwnG.ne_of ho (by omega))) hB
/-- Another number comes into the box. -/
theorem DkI.putN {c : Nat} {a : Option Addr} {len cap : Nat} {W X : World} {b : Option Addr} {n d : Nat} {N : Int} {ls : List Ss} (h : DkI c a len cap W X b n d N ls) (N' : Int) :
    DkI c a len cap W (X.setCell ⟨W.heap.size + 1, 1, none⟩ (.int .i64 N')) b n d N' ls := by
  have h1 := h.hc; have h2 := h.sz
  refine ⟨h.cur.far (by omega) _, h.kp.setNew h.hc (by omega) _, h.hc, by simpa using h.sz, cell_set1 h.r0 (by omega), cell_set1 h.r1 (by omega), fun o => frz_set1 (h.rF o), by simp [go_sem, h.d0], by simp [go_sem, h.d1], fun o => frz_set1 (h.dF o), OwnG.grown h.own (grown_cellG _ _ _ _) (OwnG.ne_of h.own (by omega)), h.few⟩

set_option maxHeartbeats 1000000 in
theorem l1Str_any (c : Nat) (a : Option Addr) (len cap : Nat) (q k : Nat) (W : World) (hC : Cur W c a len cap) (hk : 0 < k) (hk1 : k ≤ 100) (hq : q < W.heap.size) (hqc : q ≠ c) (hv : ∀ j, j < k → ∃ z : ByteArray, W.cell? ⟨q, j, none⟩ = some (.string z)) :
    Calls Try.prog 21 #[.pointer (some ⟨c, 0, none⟩), .slice (some ⟨q, 0, none⟩) k k] W fun e W' => (∃ z : ByteArray, e = .returned (.string z)) ∧ Cur W' c a len cap ∧ Kp c W W' := by
  have HC : Hid (Cur W c a len cap) := hC
  have HV : Hid (∀ j, j < k → ∃ z : ByteArray, W.cell? ⟨q, j, none⟩ = some (.string z)) := hv
  clear hC hv
  go_enter Try.func21, Try.ntmps21
  go_wp2_with fail
  refine (l1Below_any c a len cap k _ HC.out).mono ?_
  rintro e W1 ⟨⟨x, x0, x9, rfl⟩, hC1, hK1⟩
  obtain ⟨j, rfl⟩ : ∃ j : Nat, x = (j : Int) := ⟨x.toNat, by omega⟩
  have hj : j < k := by omega
  obtain ⟨z, hc⟩ := HV.out j hj
  have cv : W1.cell? ⟨q, j, none⟩ = some (.string z) := (hK1.cel q j hq hqc).trans hc
  have HK : Hid (Kp c W W1) := hK1
  have HC1 : Hid (Cur W1 c a len cap) := hC1
  clear hK1 hC1 x9 x0 hc
  go_wp2_with fail
  go_ret
  exact ⟨⟨z, rfl⟩, HC1.out, HK.out⟩

set_option maxHeartbeats 1000000 in
theorem l1Size_any (a : Option Addr) (len cap : Nat) (m : Int) (h3 : 3 ≤ m) (hl : len ≤ 1048576) (w : World) :
    Calls Try.prog 19 #[.slice a len cap, .int .i64 m] w fun e w' => (∃ x : Int, 0 < x ∧ x ≤ m ∧ e = .returned (.int .i64 x)) ∧ w' = w := by
  obtain ⟨z, hz⟩ : ∃ z : Int, (len : Int) / 12 = z := ⟨_, rfl⟩
  have hz0 : 0 ≤ z := by omega
  have hz9 : z ≤ 1000000 := by omega
  cases hd : decide (m < 3 + z)
  · have hd' := of_decide_eq_false hd
    go_enter Try.func19, Try.ntmps19
    go_wp2_with fail
    go_ret
    exact ⟨⟨3 + z, by omega, by omega, rfl⟩, rfl⟩
  · go_enter Try.func19, Try.ntmps19
    go_wp2_with fail
    go_ret
    exact ⟨⟨m, by omega, by omega, rfl⟩, rfl⟩

/-- What one of the specification's three steps makes of a desk of at most twelve. -/
theorem sOp12 (b : Option Addr) (n d : Nat) (N : Int) (ls : List Ss) (w : World) (hn : n = ls.length) (hB : RowG KSs w b ls) (hc : b = none → d = 0) (h12 : n ≤ 12) (hN0 : 1 ≤ N) (hN1 : N ≤ 1000000) (u : Int) :
    Calls Try.prog 15 #[.agg #[.slice b n d, .int .i64 N], .int .i64 u] w fun e w' => ∃ b' n' d' N' ls' x, e = .returned (.tuple #[.agg #[.slice b' n' d', .int .i64 N'], .int .i64 x]) ∧ OwnG KSs 39 w' w.heap.size (.slice b' n' d') ls' ∧ n' ≤ 12 ∧ 1 ≤ N' ∧ N' ≤ 1000000 ∧ Below w.heap.size w w' := by
  cases hr : (dkB ls N && (!((n : Int) == 12) && (!(N == 1000000) && tmB u)))
  · exact (sOp_no b n d N ls w hn hB hc (by omega) u hr).mono fun e w' ⟨a', c', h1, h2, h3⟩ => ⟨a', n, c', N, ls, 0, h1, h2, h12, hN0, hN1, h3⟩
  · refine (sOp_yes b n d N ls w hn hB hc (by omega) u hr).mono fun e w' ⟨a', c', h1, h2, h3⟩ => ⟨a', n + 1, c', N + 1, _, N, h1, h2, ?_, by omega, ?_, h3⟩
    · simp only [Bool.and_eq_true, Bool.not_eq_true', beq_eq_false_iff_ne] at hr; omega
    · simp only [Bool.and_eq_true, Bool.not_eq_true', beq_eq_false_iff_ne] at hr; omega
theorem sCl12 (b : Option Addr) (n d : Nat) (N : Int) (ls : List Ss) (w : World) (hn : n = ls.length) (hB : RowG KSs w b ls) (hc : b = none → d = 0) (hnd : n ≤ d) (hd : d ≤ 9223372036854775807) (hbs : ∀ (_ : 0 < n), ∃ g, b = some ⟨g, 0, none⟩) (h12 : n ≤ 12) (id : Int) :
    Calls Try.prog 39 #[.agg #[.slice b n d, .int .i64 N], .int .i64 id] w fun e w' => ∃ b' n' d' ls' x, e = .returned (.tuple #[.agg #[.slice b' n' d', .int .i64 N], .bool x]) ∧ OwnG KSs 39 w' w.heap.size (.slice b' n' d') ls' ∧ n' ≤ 12 ∧ Below w.heap.size w w' := by
  cases hr : dkB ls N
  · exact (sCl_form b n d N ls w hn hB hc (by omega) id hr).mono fun e w' ⟨a', c', h1, h2, h3⟩ => ⟨a', n, c', ls, false, h1, h2, h12, h3⟩
  · cases hf : findS id ls with
    | none => exact (sCl_none b n d N ls w hn hB hc (by omega) id hr hf).mono fun e w' ⟨a', c', h1, h2, h3⟩ => ⟨a', n, c', ls, false, h1, h2, h12, h3⟩
    | some I =>
      obtain ⟨q, hq, _, hI, _⟩ := findS_at hf
      obtain ⟨g, rfl⟩ := hbs (by omega)
      by_cases hcj : d = I + 1
      · have hnI : n = I + 1 := by omega
        have hdn : d = n := by omega
        subst hdn
        exact (sCl_yes0 g d N ls w hn hB (by omega) id hr I (by omega) hf hnI).mono fun e w' ⟨a', c', h1, h2, h3⟩ => ⟨a', d - 1, c', _, true, h1, h2, by omega, h3⟩
      · exact (sCl_yes1 g n d N ls w hn hB (by omega) id hr I (by omega) hf hnd hd hcj).mono fun e w' ⟨a', c', h1, h2, h3⟩ => ⟨a', n - 1, c', _, true, h1, h2, by omega, h3⟩
theorem sAn12 (b : Option Addr) (n d : Nat) (N : Int) (ls : List Ss) (w : World) (hn : n = ls.length) (hB : RowG KSs w b ls) (hc : b = none → d = 0) (h12 : n ≤ 12) (id s : Int) (rp : ByteArray) (u : Int) :
    Calls Try.prog 8 #[.agg #[.slice b n d, .int .i64 N], .int .i64 id, .int .i64 s, .string rp, .int .i64 u] w fun e w' => ∃ b' n' d' ls' x, e = .returned (.tuple #[.agg #[.slice b' n' d', .int .i64 N], .bool x]) ∧ OwnG KSs 39 w' w.heap.size (.slice b' n' d') ls' ∧ n' ≤ 12 ∧ Below w.heap.size w w' := by
  have no : ∀ (C : Int) (T : ByteArray), (∀ (a : Option Addr) (c : Nat) (w : World), RowG KSs w a ls → Calls Try.prog 30 #[.agg #[.slice a n c, .int .i64 N], .int .i64 id, .int .i64 s] w fun e w' => e = .returned (.tuple #[.int .i64 C, .string T]) ∧ Below w.heap.size w w') → ((((C == 0) && decide (s ≤ 1000000)) && decide ((rp.size : Int) ≤ 200)) && tmB u) = false → Calls Try.prog 8 #[.agg #[.slice b n d, .int .i64 N], .int .i64 id, .int .i64 s, .string rp, .int .i64 u] w fun e w' => ∃ b' n' d' ls' x, e = .returned (.tuple #[.agg #[.slice b' n' d', .int .i64 N], .bool x]) ∧ OwnG KSs 39 w' w.heap.size (.slice b' n' d') ls' ∧ n' ≤ 12 ∧ Below w.heap.size w w' :=
    fun C T HA hr => (sAn_no b n d N ls w hn hB hc (by omega) id s rp u C T HA hr).mono fun e w' ⟨a', c', h1, h2, h3⟩ => ⟨a', n, c', ls, false, h1, h2, h12, h3⟩
  cases hr : dkB ls N
  · exact no 4 ⟨#[]⟩ (fun a c w e => sAsk_form a n c N ls w hn e (by omega) id s hr) rfl
  · cases hf : findS id ls with
    | none => exact no 4 ⟨#[]⟩ (fun a c w e => sAsk_none a n c N ls w hn e (by omega) id s hr hf) rfl
    | some I =>
      obtain ⟨q, hq, _⟩ := findS_at hf
      cases htk : tkB q s rp u
      · exact no _ _ (fun a c w e => sAsk_yes a n c N ls w hn e (by omega) id s hr I hf q hq) htk
      · exact (sAn_yes b n d N ls w hn hB hc (by omega) id s rp u (askN q.l s) (askT q s) (fun a c w e => sAsk_yes a n c N ls w hn e (by omega) id s hr I hf q hq) htk I hf q hq).mono fun e w' ⟨a', c', h1, h2, h3⟩ => ⟨a', n, c', _, true, h1, h2, h12, h3⟩

end Go.Proofs.Ytjenbmiiikeenaa
