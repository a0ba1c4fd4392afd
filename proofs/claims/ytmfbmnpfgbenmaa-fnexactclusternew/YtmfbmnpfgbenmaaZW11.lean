/-
  Both EntryOk: they answer alike.
-/
import Derived.Test.YtmfbmnpfgbenmaaZW9
import Derived.Test.YtmfbmnpfgbenmaaChecked
import GoSem.Claim
import GoSem.ClaimJoined
import GoSem.ClaimMapViews
import Derived.JoinedTies
import Derived.KernelRfl
import Derived.WalkKit
import Derived.WalkSpells
import Derived.WalkLawsBesides
import Derived.Deep.AppendSrc
import Derived.OwnWalk
import Derived.Deep.RegionWith
import Derived.Deep.DeepCutAuto
import Derived.Deep.QuietTactic
import Derived.BigQuiet
import Derived.Deep.AppendLies
import Derived.Carry
import Derived.Deep.Slices
import Derived.Deep.RegionHeld3
import Derived.ChangeMaps5
import Derived.Lib.SmallJoins
import Derived.Lib.SliceRun
import Derived.Test.YtmfbmnpfgbenmaaZW7
import Derived.Test.YtmfbmnpfgbenmaaZW10
import Derived.Test.YtmfbmnpfgbenmaaZW8
namespace Go.Proofs.Ytmfbmnpfgbenmaa
open Go.ChangeShapes Go.WideShapes Go.ChangeAt Go.RowKit Go.Joins Go.Deep

/-- An entry that is right: of its term, its kind, how many bytes its data has, and whether that is a group's. -/
def enB (T K : Int) (n : Nat) (C : Bool) : Bool := (decide (1 ≤ T) && decide (T ≤ 1000000)) && (((K == 1) && ((n : Int) == 0)) || ((K == 2) && decide ((n : Int) ≤ 400)) || ((K == 3) && C))
theorem enB_no {T K : Int} {n : Nat} {C : Bool} (h : (decide (1 ≤ T) && decide (T ≤ 1000000)) = false) : enB T K n C = false := by unfold enB; rw [h]; rfl
theorem enB_1 {T : Int} {n : Nat} {C : Bool} (h : (decide (1 ≤ T) && decide (T ≤ 1000000)) = true) : enB T 1 n C = ((n : Int) == 0) := by unfold enB; rw [h]; simp
theorem enB_2 {T : Int} {n : Nat} {C : Bool} (h : (decide (1 ≤ T) && decide (T ≤ 1000000)) = true) : enB T 2 n C = decide ((n : Int) ≤ 400) := by unfold enB; rw [h]; simp
theorem enB_3 {T : Int} {n : Nat} {C : Bool} (h : (decide (1 ≤ T) && decide (T ≤ 1000000)) = true) : enB T 3 n C = C := by unfold enB; rw [h]; simp
theorem enB_4 {T K : Int} {n : Nat} {C : Bool} (h : (decide (1 ≤ T) && decide (T ≤ 1000000)) = true) (h1 : K ≠ 1) (h2 : K ≠ 2) (h3 : K ≠ 3) : enB T K n C = false := by unfold enB; rw [h]; simp [h1, h2, h3]
set_option maxRecDepth 10000 in
set_option maxHeartbeats 2000000 in
theorem sEntryOk_any (a : Option Addr) (n c : Nat) (T K : Int) (C : Bool) (NP NB : Nat) (w : World)
    (HG : K = 3 → ∀ W, Below w.heap.size w W → Calls Try.prog 110 #[.slice a n c] W fun e w' => ∃ a c b d, e = .returned (.tuple #[.agg #[.slice a NP c, .slice b NB d], .bool C]) ∧ Below W.heap.size W w') :
    Calls Try.prog 92 #[.agg #[.int .i64 T, .int .i64 K, .slice a n c]] w fun e w' => e = .returned (.bool (enB T K n C)) ∧ Below w.heap.size w w' := by
  have HL := hidP (fun W => l1In12 T 1 1000000 W)
  cases ht : (decide (1 ≤ T) && decide (T ≤ 1000000))
  · rw [enB_no ht]
    rw [ht] at HL
    clear HG
    go_enter Try.func92, Try.ntmps92
    go_wp2_with fail
    refine (HL.out _).mono ?_
    rintro e w1 ⟨rfl, rfl⟩
    go_wp2_with fail
    go_ret
    exact ⟨rfl, alloc_below _ _⟩
  · rw [ht] at HL
    by_cases h1 : K = 1
    · subst h1
      rw [enB_1 ht]
      clear HG
      go_enter Try.func92, Try.ntmps92
      go_wp2_with fail
      refine (HL.out _).mono ?_
      rintro e w1 ⟨rfl, rfl⟩
      go_wp2_with fail
      go_ret
      exact ⟨rfl, alloc_below _ _⟩
    have k1 : (K == 1) = false := by simpa using h1
    by_cases h2 : K = 2
    · subst h2
      rw [enB_2 ht]
      clear HG
      go_enter Try.func92, Try.ntmps92
      go_wp2_with fail
      refine (HL.out _).mono ?_
      rintro e w1 ⟨rfl, rfl⟩
      go_wp2_with fail
      go_ret
      exact ⟨rfl, alloc_below _ _⟩
    have k2 : (K == 2) = false := by simpa using h2
    by_cases h3 : K = 3
    · subst h3
      rw [enB_3 ht]
      have HGG := hidP (HG rfl)
      clear HG
      go_enter Try.func92, Try.ntmps92
      go_wp2_with fail
      refine (HL.out _).mono ?_
      rintro e w1 ⟨rfl, rfl⟩
      go_wp2_with fail
      refine (HGG.out _ (alloc_below _ _)).mono ?_
      rintro e w2 ⟨a1, c1, b1, d1, rfl, hb2⟩
      have HB := hidP hb2
      clear hb2
      go_wp2_with fail
      go_ret
      refine ⟨rfl, ?_⟩
      have hz := HB.out.size
      simp at hz
      repeat (first | with_reducible exact Below.refl _ _ | with_reducible exact (alloc_below w _).trans (HB.out.mono (alloc_below w _).size) | (with_reducible refine Below.drew ?_) | (with_reducible refine Below.alloc ?_ ?_ _; rotate_left; (focus (first | omega | (simp; omega) | (simp; done)))) | (with_reducible refine Below.setCell ?_ ?_ _; rotate_left; (focus (first | omega | (simp; omega) | (simp; done)))))
    have k3 : (K == 3) = false := by simpa using h3
    rw [enB_4 ht h1 h2 h3]
    clear HG
    go_enter Try.func92, Try.ntmps92
    go_wp2_with fail
    refine (HL.out _).mono ?_
    rintro e w1 ⟨rfl, rfl⟩
    go_wp2_with fail
    go_ret
    exact ⟨rfl, alloc_below _ _⟩

end Go.Proofs.Ytmfbmnpfgbenmaa

/-
  Rows of entries, each with bytes of its own; a Keep as memory holds it, and a right one.
-/
namespace Go.Proofs.Ytmfbmnpfgbenmaa
open Go.ChangeShapes Go.WideShapes Go.ChangeAt Go.RowKit Go.Joins Go.Deep

/-- An entry: its cells, and what its bytes are. -/
structure En where
  T : Int
  K : Int
  a : Option Addr
  n : Nat
  c : Nat
  zs : List Int
def KEn : Kd En := ⟨3, fun e => [.int .i64 e.T, .int .i64 e.K, .slice e.a e.n e.c], fun _ => rfl, fun x u h => by
  simp at h
  rcases h with rfl | rfl | rfl <;> rfl⟩
theorem Try.tyEn : GTy KEn (.agg #[.int .i64 0, .int .i64 0, .slice none 0 0]) 40 Try.prog 28 113 := ⟨Try.underlying28, by kernel_rfl, rfl, by omega⟩
theorem rowEn {w : World} {a : Option Addr} {es : List En} (h : RowG KEn w a es) (j : Nat) (hj : j < es.length) : ∃ p o e, a = some ⟨p, o, none⟩ ∧ p < w.heap.size ∧ es[j]? = some e ∧
    w.cell? ⟨p, o + j * 3, none⟩ = some (.int .i64 e.T) ∧ w.cell? ⟨p, o + j * 3 + 1, none⟩ = some (.int .i64 e.K) ∧ w.cell? ⟨p, o + j * 3 + 2, none⟩ = some (.slice e.a e.n e.c) := by
  obtain ⟨p, o, q, ha, hp, hq, c⟩ := h j hj
  exact ⟨p, o, q, ha, hp, hq, c 0 _ rfl, c 1 _ rfl, c 2 _ rfl⟩
/-- Its bytes are there. -/
def DatR (w : World) (e : En) : Prop := e.n = e.zs.length ∧ Oct e.zs ∧ RowG KBy w e.a e.zs
theorem DatR.later {w w' : World} {e : En} (h : DatR w e) (hb : Below w.heap.size w w') : DatR w' e := ⟨h.1, h.2.1, h.2.2.later hb⟩
/-- It is right. -/
def En.ok (e : En) : Bool := enB e.T e.K e.n (gB e.zs)
set_option maxRecDepth 10000 in
set_option maxHeartbeats 2000000 in
theorem iEntryOkA (a : Option Addr) (n c : Nat) (T K : Int) (C : Bool) (w : World)
    (HG : K = 3 → ∀ W, Below w.heap.size w W → Calls Try.prog 145 #[.slice a n c] W fun e w' => ∃ a n c b m d, e = .returned (.tuple #[.agg #[.slice a n c, .slice b m d], .bool C]) ∧ Below W.heap.size W w') :
    Calls Try.prog 131 #[.agg #[.int .i64 T, .int .i64 K, .slice a n c]] w fun e w' => e = .returned (.bool (enB T K n C)) ∧ Below w.heap.size w w' := by
  cases ht : (decide (1 ≤ T) && decide (T ≤ 1000000))
  · rw [enB_no ht]
    clear HG
    by_cases t1 : T < 1
    · have t3 : decide (T < 1) = true := decide_eq_true t1
      go_enter Try.func131, Try.ntmps131
      go_wp2_with fail
      go_ret
      exact ⟨rfl, alloc_below _ _⟩
    · have t3 : decide (T < 1) = false := decide_eq_false t1
      have t2 : T > 1000000 := by simp at ht; omega
      have t4 : decide (T > 1000000) = true := decide_eq_true t2
      go_enter Try.func131, Try.ntmps131
      go_wp2_with fail
      go_ret
      exact ⟨rfl, alloc_below _ _⟩
  · have t1 : ¬ T < 1 := by simp at ht; omega
    have t2 : ¬ T > 1000000 := by simp at ht; omega
    have t3 : decide (T < 1) = false := decide_eq_false t1
    have t4 : decide (T > 1000000) = false := decide_eq_false t2
    by_cases h1 : K = 1
    · subst h1
      rw [enB_1 ht]
      clear HG
      go_enter Try.func131, Try.ntmps131
      go_wp2_with fail
      go_ret
      exact ⟨rfl, alloc_below _ _⟩
    have k1 : (K == 1) = false := by simpa using h1
    by_cases h2 : K = 2
    · subst h2
      rw [enB_2 ht]
      clear HG
      go_enter Try.func131, Try.ntmps131
      go_wp2_with fail
      go_ret
      exact ⟨rfl, alloc_below _ _⟩
    have k2 : (K == 2) = false := by simpa using h2
    by_cases h3 : K = 3
    · subst h3
      rw [enB_3 ht]
      have HGG := hidP (HG rfl)
      clear HG
      go_enter Try.func131, Try.ntmps131
      go_wp2_with fail
      refine (HGG.out _ (alloc_below _ _)).mono ?_
      rintro e w2 ⟨a1, n1, c1, b1, m1, d1, rfl, hb2⟩
      have HB := hidP hb2
      clear hb2
      go_wp2_with fail
      go_ret
      refine ⟨rfl, ?_⟩
      have hz := HB.out.size
      simp at hz
      repeat (first | with_reducible exact Below.refl _ _ | with_reducible exact (alloc_below w _).trans (HB.out.mono (alloc_below w _).size) | (with_reducible refine Below.drew ?_) | (with_reducible refine Below.alloc ?_ ?_ _; rotate_left; (focus (first | omega | (simp; omega) | (simp; done)))) | (with_reducible refine Below.setCell ?_ ?_ _; rotate_left; (focus (first | omega | (simp; omega) | (simp; done)))))
    have k3 : (K == 3) = false := by simpa using h3
    rw [enB_4 ht h1 h2 h3]
    clear HG
    go_enter Try.func131, Try.ntmps131
    go_wp2_with fail
    go_ret
    exact ⟨rfl, alloc_below _ _⟩

set_option maxHeartbeats 1000000 in
theorem iEntry_any (e : En) (w : World) (hd : DatR w e) :
    Calls Try.prog 131 #[.agg #[.int .i64 e.T, .int .i64 e.K, .slice e.a e.n e.c]] w fun x w' => x = .returned (.bool e.ok) ∧ Below w.heap.size w w' := by
  have h := (fun W (hb : Below w.heap.size w W) => iGet_any e.a e.n e.c e.zs W hd.1 hd.2.1 (hd.2.2.later hb))
  exact iEntryOkA e.a e.n e.c e.T e.K (gB e.zs) w (fun _ W hb => (h W hb).mono fun x w' ⟨a1, n1, c1, b1, m1, d1, ps, bs, he, _, _, _, _, _, _, _, hb'⟩ => ⟨a1, n1, c1, b1, m1, d1, he, hb'⟩)

/-- A Keep's cells, and what its rows hold. -/
structure Kv where
  T : Int
  V : Int
  B : Int
  E : Int
  ga : Option Addr
  gn : Nat
  gc : Nat
  ha : Option Addr
  hn : Nat
  hc : Nat
  sa : Option Addr
  sn : Nat
  sc : Nat
  la : Option Addr
  ln : Nat
  lc : Nat
  ps : List Int
  bs : List Int
  es : List En
abbrev Kv.v (k : Kv) : Value := .agg #[.int .i64 k.T, .int .i64 k.V, .int .i64 k.B, .int .i64 k.E, .slice k.ga k.gn k.gc, .slice k.ha k.hn k.hc, .slice k.sa k.sn k.sc, .slice k.la k.ln k.lc]
/-- It can be read. -/
structure KvR (w : World) (k : Kv) : Prop where
  hg : k.gn = k.ps.length
  hh : k.hn = k.bs.length
  hl : k.ln = k.es.length
  rg : RowG KI w k.ga k.ps
  rh : RowG KI w k.ha k.bs
  rl : RowG KEn w k.la k.es
  dt : ∀ e ∈ k.es, DatR w e
theorem KvR.later {w w' : World} {k : Kv} (h : KvR w k) (hb : Below w.heap.size w w') : KvR w' k := ⟨h.hg, h.hh, h.hl, h.rg.later hb, h.rh.later hb, h.rl.later hb, fun e he => (h.dt e he).later hb⟩
/-- The terms never fall, from one on. -/
def risE : Int → List En → Bool
  | _, [] => true
  | l, e :: t => (e.ok && decide (l ≤ e.T)) && risE e.T t
/-- The last term. -/
def lasE : Int → List En → Int
  | l, [] => l
  | _, e :: t => lasE e.T t
structure KvOk (k : Kv) : Prop where
  t0 : 0 ≤ k.T
  t1 : k.T ≤ 1000000
  v0 : 0 ≤ k.V
  v1 : k.V ≤ 7
  bs : (k.B = 0 ∧ k.E = 0 ∧ k.sn = 0) ∨ (1 ≤ k.B ∧ k.B ≤ 1000000 ∧ 1 ≤ k.E ∧ k.E ≤ k.T ∧ k.sn ≤ 20000)
  gr : grB k.ps k.bs = true
  gs : k.ps.length ≤ 1048576 ∧ k.bs.length ≤ 1048576
  lg : k.es.length ≤ 120
  lx : k.B + (k.es.length : Int) ≤ 1000000
  rs : risE k.E k.es = true
  la : lasE k.E k.es ≤ k.T

end Go.Proofs.Ytmfbmnpfgbenmaa

/-
  The program's looks at a right Keep: it is right; its last index, its terms.
-/
namespace Go.Proofs.Ytmfbmnpfgbenmaa
open Go.ChangeShapes Go.WideShapes Go.ChangeAt Go.RowKit Go.Joins Go.Deep

theorem dropE {es : List En} {i : Nat} {e : En} (h : es[i]? = some e) : es.drop i = e :: es.drop (i + 1) := by
  obtain ⟨hi, rfl⟩ := List.getElem?_eq_some_iff.1 h
  exact List.drop_eq_getElem_cons hi

theorem risE_split (l : Int) (e : En) (t : List En) : risE l (e :: t) = ((e.ok && decide (l ≤ e.T)) && risE e.T t) := rfl
theorem lasE_cons (l : Int) (e : En) (t : List En) : lasE l (e :: t) = lasE e.T t := rfl

set_option maxRecDepth 10000 in
set_option maxHeartbeats 4000000 in
theorem entriesOk_any (la : Option Addr) (ln lc : Nat) (es : List En) (E T : Int) (w : World) (hl : ln = es.length) (hz : ln ≤ 1048576)
    (hR : RowG KEn w la es) (hD : ∀ e ∈ es, DatR w e) :
    Calls Try.prog 112 #[.slice la ln lc, .int .i64 E, .int .i64 T] w fun e w' => e = .returned (.bool (risE E es && decide (lasE E es ≤ T))) ∧ Below w.heap.size w w' := by
  have HR := hidP (And.intro hR hD)
  have HN := hidP hl
  clear hR hD hl
  go_enter Try.func112, Try.ntmps112
  go_wp2_with fail
  go_loopw [7, 9, 13] (fun t7 _ t13 wr => ∃ (i : Nat) (l : Int), i ≤ ln ∧ t13 = .int .i64 i ∧ t7 = .int .i64 l ∧ (risE l (es.drop i) && decide (lasE l (es.drop i) ≤ T)) = (risE E es && decide (lasE E es ≤ T)) ∧ Below w.heap.size w wr) (fun _ _ t13 _ => ln - (intOf t13).toNat)
  case atStart => exact ⟨0, E, Nat.zero_le _, rfl, rfl, rfl, Below.refl _ _⟩
  case round =>
    obtain ⟨i, l, hin, rfl, rfl, h1, hbr⟩ := hrel
    have HB := hidP hbr
    by_cases hlt : i < ln
    · obtain ⟨p, o, e, rfl, hp, he, c0, c1, c2⟩ := rowEn HR.out.1 i (by have := HN.out; omega)
      rw [dropE he, risE_split, lasE_cons] at h1
      have hD := (HR.out.2 e (List.mem_of_getElem? he)).later hbr
      have HE := hidP (fun W (hb : Below wr.heap.size wr W) => iEntry_any e W (hD.later hb))
      have x0 := (hbr.cell hp).trans c0
      have x1 := (hbr.cell hp).trans c1
      have x2 := (hbr.cell hp).trans c2
      have HS := hidP h1
      have i0 : (0 : Int) ≤ (i : Int) := by omega
      have i1 : (i : Int) < (ln : Int) := by omega
      clear c0 c1 c2 h1 hD hbr he hp
      cases ho : e.ok
      · rw [ho] at HE HS
        go_wp2_with fail
        obtain ⟨y0, y1, y2⟩ := box3E wr 113 (.int .i64 e.T) (.int .i64 e.K) (.slice e.a e.n e.c)
        have yB := alloc_below wr (.cells #[.int .i64 e.T, .int .i64 e.K, .slice e.a e.n e.c] 113)
        have yL : wr.heap.size < (wr.alloc (.cells #[.int .i64 e.T, .int .i64 e.K, .slice e.a e.n e.c] 113)).heap.size := by simp
        generalize wr.alloc (.cells #[.int .i64 e.T, .int .i64 e.K, .slice e.a e.n e.c] 113) = W2 at *
        refine (HE.out _ yB).mono ?_
        rintro x w3 ⟨rfl, hb3⟩
        have z0 := (hb3.cell yL).trans y0
        have HF := hidP (HB.out.trans ((yB.trans (hb3.mono yB.size)).mono HB.out.size))
        clear y0 y1 y2 yB hb3
        go_wp2_with fail
        go_ret
        exact ⟨by rw [← HS.out]; rfl, HF.out⟩
      · rw [ho] at HE HS
        by_cases t9 : e.T < l
        · have t1 : decide (e.T < l) = true := decide_eq_true t9
          have t2 : decide (l ≤ e.T) = false := decide_eq_false (by omega)
          rw [t2] at HS
          clear t2
          go_wp2_with fail
          obtain ⟨y0, y1, y2⟩ := box3E wr 113 (.int .i64 e.T) (.int .i64 e.K) (.slice e.a e.n e.c)
          have yB := alloc_below wr (.cells #[.int .i64 e.T, .int .i64 e.K, .slice e.a e.n e.c] 113)
          have yL : wr.heap.size < (wr.alloc (.cells #[.int .i64 e.T, .int .i64 e.K, .slice e.a e.n e.c] 113)).heap.size := by simp
          generalize wr.alloc (.cells #[.int .i64 e.T, .int .i64 e.K, .slice e.a e.n e.c] 113) = W2 at *
          refine (HE.out _ yB).mono ?_
          rintro x w3 ⟨rfl, hb3⟩
          have z0 := (hb3.cell yL).trans y0
          have HF := hidP (HB.out.trans ((yB.trans (hb3.mono yB.size)).mono HB.out.size))
          clear y0 y1 y2 yB hb3
          go_wp2_with fail
          go_ret
          exact ⟨by rw [← HS.out]; rfl, HF.out⟩
        · have t1 : decide (e.T < l) = false := decide_eq_false t9
          have t2 : decide (l ≤ e.T) = true := decide_eq_true (by omega)
          rw [t2] at HS
          clear t2
          go_wp2_with fail
          obtain ⟨y0, y1, y2⟩ := box3E wr 113 (.int .i64 e.T) (.int .i64 e.K) (.slice e.a e.n e.c)
          have yB := alloc_below wr (.cells #[.int .i64 e.T, .int .i64 e.K, .slice e.a e.n e.c] 113)
          have yL : wr.heap.size < (wr.alloc (.cells #[.int .i64 e.T, .int .i64 e.K, .slice e.a e.n e.c] 113)).heap.size := by simp
          generalize wr.alloc (.cells #[.int .i64 e.T, .int .i64 e.K, .slice e.a e.n e.c] 113) = W2 at *
          refine (HE.out _ yB).mono ?_
          rintro x w3 ⟨rfl, hb3⟩
          have z0 := (hb3.cell yL).trans y0
          have HF := hidP (HB.out.trans ((yB.trans (hb3.mono yB.size)).mono HB.out.size))
          clear y0 y1 y2 yB hb3
          go_wp2_with fail
          go_roundw
          case rel => exact ⟨i + 1, e.T, by omega, by go_num, rfl, HS.out, HF.out⟩
          case measure => simp [intOf]; omega
    · have hiE : i = ln := by omega
      subst hiE
      have HS := hidP h1
      clear h1 hbr
      by_cases e1 : l ≤ T
      · have e2 : decide (l ≤ T) = true := decide_eq_true e1
        go_wp2_with fail
        go_ret
        have := HS.out
        rw [List.drop_of_length_le (by have := HN.out; omega)] at this
        exact ⟨by rw [← this]; simp [risE, lasE, e1], HB.out⟩
      · have e2 : decide (l ≤ T) = false := decide_eq_false e1
        go_wp2_with fail
        go_ret
        have := HS.out
        rw [List.drop_of_length_le (by have := HN.out; omega)] at this
        exact ⟨by rw [← this]; show _ = Ending.returned (.bool (true && decide (l ≤ T))); rw [e2]; rfl, HB.out⟩

end Go.Proofs.Ytmfbmnpfgbenmaa

/-
  Rows of entries of one's own, each entry's bytes in a row of one's own elsewhere; entries that hold the same.
-/
namespace Go.Proofs.Ytmfbmnpfgbenmaa
open Go.ChangeShapes Go.WideShapes Go.ChangeAt Go.RowKit Go.Joins Go.Deep

/-- An entry whose bytes lie in a row of one's own, elsewhere than in the block G. -/
structure EnO (w : World) (B G : Nat) (e : En) : Prop where
  hn : e.n = e.zs.length
  ho : Oct e.zs
  own : OwnG KBy 5 w B (.slice e.a e.n e.c) e.zs
  ne : ∀ k, (Value.slice e.a e.n e.c).ownBlock = some k → k ≠ G
theorem EnO.dat {w : World} {B G : Nat} {e : En} (h : EnO w B G e) : DatR w e := ⟨h.hn, h.ho, h.own.row⟩
theorem EnO.later {w w' : World} {B G : Nat} {e : En} (h : EnO w B G e) (hb : Below w.heap.size w w') : EnO w' B G e := ⟨h.hn, h.ho, h.own.later hb, h.ne⟩
theorem EnO.grown {w w' : World} {B G : Nat} {e : En} (h : EnO w B G e) (hg : w.grownBy w' (some G)) : EnO w' B G e := ⟨h.hn, h.ho, h.own.grown hg (fun k hk he => h.ne k hk (Option.some.inj he).symm), h.ne⟩
theorem EnO.set {w : World} {B G : Nat} {e : En} (h : EnO w B G e) (o : Nat) (v : Value) : EnO (w.setCell ⟨G, o, none⟩ v) B G e := h.grown (grown_cellG _ _ _ _)
/-- What an entry holds. -/
def En.key (e : En) : Int × Int × Nat × List Int := (e.T, e.K, e.n, e.zs)
theorem key_ok {e f : En} (h : e.key = f.key) : e.ok = f.ok := by
  unfold En.key at h
  simp only [Prod.mk.injEq] at h
  unfold En.ok
  rw [h.1, h.2.1, h.2.2.1, h.2.2.2]
theorem key_T {e f : En} (h : e.key = f.key) : e.T = f.T := congrArg (fun x => x.1) h
theorem ris_key : ∀ {es fs : List En} (l : Int), es.map En.key = fs.map En.key → risE l es = risE l fs ∧ lasE l es = lasE l fs
  | [], [], _, _ => ⟨rfl, rfl⟩
  | [], _ :: _, _, h => by simp at h
  | _ :: _, [], _, h => by simp at h
  | e :: t, f :: u, l, h => by
      simp only [List.map_cons, List.cons.injEq] at h
      have h1 := ris_key e.T h.2
      rw [risE_split, risE_split, lasE_cons, lasE_cons, ← key_ok h.1, ← key_T h.1, h1.1, h1.2]
      exact ⟨rfl, rfl⟩
/-- Its bytes begin their block, and have no room behind them. -/
def EnF (e : En) : Prop := (∃ g, e.a = some ⟨g, 0, none⟩) ∧ e.c = e.n
def En.zero : En := ⟨0, 0, none, 0, 0, []⟩

end Go.Proofs.Ytmfbmnpfgbenmaa
