/-
  Rows of entries, each with bytes of its own; a Keep as memory holds it, and a right one.
-/
import Derived.Test.YtamaanbnlnpjcaaV13G
import Derived.Test.YtamaanbnlnpjcaaV13E
namespace Go.Proofs.Ytamaanbnlnpjcaa
open Go.ChangeShapes Go.WideShapes Go.ChangeAt Go.RowKit Go.Joins Go.Deep

/-- An entry: its cells, and what its bytes are. -/
structure En where
  T : Int
  K : Int
  a : Option Addr
  n : Nat
  c : Nat
  zs : List Int
def KEn : Kd En := ⟨3, fun e => [.int .i64 e.T, .int .i64 e.K, .slice e.a e.n e.c], fun _ => rfl, fun x u h => by
  simp at h
  rcases h with rfl | rfl | rfl <;> rfl⟩
theorem Try.tyEn : GTy KEn (.agg #[.int .i64 0, .int .i64 0, .slice none 0 0]) 40 Try.prog 27 69 := ⟨Try.underlying27, by kernel_rfl, rfl, by omega⟩
theorem rowEn {w : World} {a : Option Addr} {es : List En} (h : RowG KEn w a es) (j : Nat) (hj : j < es.length) : ∃ p o e, a = some ⟨p, o, none⟩ ∧ p < w.heap.size ∧ es[j]? = some e ∧
    w.cell? ⟨p, o + j * 3, none⟩ = some (.int .i64 e.T) ∧ w.cell? ⟨p, o + j * 3 + 1, none⟩ = some (.int .i64 e.K) ∧ w.cell? ⟨p, o + j * 3 + 2, none⟩ = some (.slice e.a e.n e.c) := by
  obtain ⟨p, o, q, ha, hp, hq, c⟩ := h j hj
  exact ⟨p, o, q, ha, hp, hq, c 0 _ rfl, c 1 _ rfl, c 2 _ rfl⟩
/-- Its bytes are there. -/
def DatR (w : World) (e : En) : Prop := e.n = e.zs.length ∧ Oct e.zs ∧ RowG KBy w e.a e.zs
theorem DatR.later {w w' : World} {e : En} (h : DatR w e) (hb : Below w.heap.size w w') : DatR w' e := ⟨h.1, h.2.1, h.2.2.later hb⟩
/-- It is right. -/
def En.ok (e : En) : Bool := enB e.T e.K e.n (gB e.zs)
theorem En.ok_T {e : En} (h : e.ok = true) : 1 ≤ e.T ∧ e.T ≤ 1000000 := by
  unfold En.ok enB at h
  rw [Bool.and_eq_true, Bool.and_eq_true, decide_eq_true_eq, decide_eq_true_eq] at h
  exact h.1
theorem En.ok_g {e : En} (h : e.ok = true) (hk : e.K = 3) : gB e.zs = true := by
  unfold En.ok enB at h
  rw [hk] at h
  simp at h
  exact h.2
set_option maxRecDepth 10000 in
set_option maxHeartbeats 2000000 in
theorem iEntryOkA (a : Option Addr) (n c : Nat) (T K : Int) (C : Bool) (w : World)
    (HG : K = 3 → ∀ W, Below w.heap.size w W → Calls Try.prog 42 #[.slice a n c] W fun e w' => ∃ a n c b m d, e = .returned (.tuple #[.agg #[.slice a n c, .slice b m d], .bool C]) ∧ Below W.heap.size W w') :
    Calls Try.prog 98 #[.agg #[.int .i64 T, .int .i64 K, .slice a n c]] w fun e w' => e = .returned (.bool (enB T K n C)) ∧ Below w.heap.size w w' := by
  cases ht : (decide (1 ≤ T) && decide (T ≤ 1000000))
  · rw [enB_no ht]
    clear HG
    by_cases t1 : T < 1
    · have t3 : decide (T < 1) = true := decide_eq_true t1
      go_enter Try.func98, Try.ntmps98
      go_wp2_with fail
      go_ret
      exact ⟨rfl, alloc_below _ _⟩
    · have t3 : decide (T < 1) = false := decide_eq_false t1
      have t2 : T > 1000000 := by simp at ht; omega
      have t4 : decide (T > 1000000) = true := decide_eq_true t2
      go_enter Try.func98, Try.ntmps98
      go_wp2_with fail
      go_ret
      exact ⟨rfl, alloc_below _ _⟩
  · have t1 : ¬ T < 1 := by simp at ht; omega
    have t2 : ¬ T > 1000000 := by simp at ht; omega
    have t3 : decide (T < 1) = false := decide_eq_false t1
    have t4 : decide (T > 1000000) = false := decide_eq_false t2
    by_cases h1 : K = 1
    · subst h1
      rw [enB_1 ht]
      clear HG
      go_enter Try.func98, Try.ntmps98
      go_wp2_with fail
      go_ret
      exact ⟨rfl, alloc_below _ _⟩
    have k1 : (K == 1) = false := by simpa using h1
    by_cases h2 : K = 2
    · subst h2
      rw [enB_2 ht]
      clear HG
      go_enter Try.func98, Try.ntmps98
      go_wp2_with fail
      go_ret
      exact ⟨rfl, alloc_below _ _⟩
    have k2 : (K == 2) = false := by simpa using h2
    by_cases h3 : K = 3
    · subst h3
      rw [enB_3 ht]
      have HGG := hidP (HG rfl)
      clear HG
      go_enter Try.func98, Try.ntmps98
      go_wp2_with fail
      refine (HGG.out _ (alloc_below _ _)).mono ?_
      rintro e w2 ⟨a1, n1, c1, b1, m1, d1, rfl, hb2⟩
      have HB := hidP hb2
      clear hb2
      go_wp2_with fail
      go_ret
      refine ⟨rfl, ?_⟩
      have hz := HB.out.size
      simp at hz
      repeat (first | with_reducible exact Below.refl _ _ | with_reducible exact (alloc_below w _).trans (HB.out.mono (alloc_below w _).size) | (with_reducible refine Below.drew ?_) | (with_reducible refine Below.alloc ?_ ?_ _; rotate_left; (focus (first | omega | (simp; omega) | (simp; done)))) | (with_reducible refine Below.setCell ?_ ?_ _; rotate_left; (focus (first | omega | (simp; omega) | (simp; done)))))
    have k3 : (K == 3) = false := by simpa using h3
    rw [enB_4 ht h1 h2 h3]
    clear HG
    go_enter Try.func98, Try.ntmps98
    go_wp2_with fail
    go_ret
    exact ⟨rfl, alloc_below _ _⟩

set_option maxHeartbeats 1000000 in
theorem iEntry_any (e : En) (w : World) (hd : DatR w e) :
    Calls Try.prog 98 #[.agg #[.int .i64 e.T, .int .i64 e.K, .slice e.a e.n e.c]] w fun x w' => x = .returned (.bool e.ok) ∧ Below w.heap.size w w' := by
  have h := (fun W (hb : Below w.heap.size w W) => iGet_any e.a e.n e.c e.zs W hd.1 hd.2.1 (hd.2.2.later hb))
  exact iEntryOkA e.a e.n e.c e.T e.K (gB e.zs) w (fun _ W hb => (h W hb).mono fun x w' ⟨a1, n1, c1, b1, m1, d1, ps, bs, he, _, _, _, _, _, _, _, hb'⟩ => ⟨a1, n1, c1, b1, m1, d1, he, hb'⟩)

/-- A Keep's cells, and what its rows hold. -/
structure Kv where
  T : Int
  V : Int
  B : Int
  E : Int
  ga : Option Addr
  gn : Nat
  gc : Nat
  ha : Option Addr
  hn : Nat
  hc : Nat
  sa : Option Addr
  sn : Nat
  sc : Nat
  la : Option Addr
  ln : Nat
  lc : Nat
  ps : List Int
  bs : List Int
  es : List En
abbrev Kv.v (k : Kv) : Value := .agg #[.int .i64 k.T, .int .i64 k.V, .int .i64 k.B, .int .i64 k.E, .slice k.ga k.gn k.gc, .slice k.ha k.hn k.hc, .slice k.sa k.sn k.sc, .slice k.la k.ln k.lc]
/-- It can be read. -/
structure KvR (w : World) (k : Kv) : Prop where
  hg : k.gn = k.ps.length
  hh : k.hn = k.bs.length
  hl : k.ln = k.es.length
  rg : RowG KI w k.ga k.ps
  rh : RowG KI w k.ha k.bs
  rl : RowG KEn w k.la k.es
  dt : ∀ e ∈ k.es, DatR w e
theorem KvR.later {w w' : World} {k : Kv} (h : KvR w k) (hb : Below w.heap.size w w') : KvR w' k := ⟨h.hg, h.hh, h.hl, h.rg.later hb, h.rh.later hb, h.rl.later hb, fun e he => (h.dt e he).later hb⟩
/-- The terms never fall, from one on. -/
def risE : Int → List En → Bool
  | _, [] => true
  | l, e :: t => (e.ok && decide (l ≤ e.T)) && risE e.T t
/-- The last term. -/
def lasE : Int → List En → Int
  | l, [] => l
  | _, e :: t => lasE e.T t
structure KvOk (k : Kv) : Prop where
  t0 : 0 ≤ k.T
  t1 : k.T ≤ 1000000
  v0 : 0 ≤ k.V
  v1 : k.V ≤ 7
  bs : (k.B = 0 ∧ k.E = 0 ∧ k.sn = 0) ∨ (1 ≤ k.B ∧ k.B ≤ 1000000 ∧ 1 ≤ k.E ∧ k.E ≤ k.T ∧ k.sn ≤ 20000)
  gr : grB k.ps k.bs = true
  gs : k.ps.length ≤ 1048576 ∧ k.bs.length ≤ 1048576
  lg : k.es.length ≤ 120
  lx : k.B + (k.es.length : Int) ≤ 1000000
  rs : risE k.E k.es = true
  la : lasE k.E k.es ≤ k.T

end Go.Proofs.Ytamaanbnlnpjcaa
