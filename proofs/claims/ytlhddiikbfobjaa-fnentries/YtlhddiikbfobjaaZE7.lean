/-
  The laws' copies of an entry, looks at it and its size.
-/
import Derived.Test.YtlhddiikbfobjaaChecked
import GoSem.Claim
import GoSem.ClaimJoined
import GoSem.ClaimMapViews
import Derived.JoinedTies
import Derived.KernelRfl
import Derived.WalkKit
import Derived.WalkSpells
import Derived.WalkLawsBesides
import Derived.Deep.AppendSrc
import Derived.OwnWalk
import Derived.Deep.RegionWith
import Derived.Deep.DeepCutAuto
import Derived.Deep.QuietTactic
import Derived.BigQuiet
import Derived.Deep.AppendLies
import Derived.Carry
import Derived.Deep.Slices
import Derived.Deep.RegionHeld3
import Derived.ChangeMaps5
import Derived.Lib.SmallJoins
import Derived.Lib.SliceRun
import Derived.Test.YtlhddiikbfobjaaZE3
import Derived.ProofKit
import Derived.Test.YtlhddiikbfobjaaZE5
import Derived.Test.YtlhddiikbfobjaaZE1
import Derived.Test.YtlhddiikbfobjaaZE6
namespace Go.Proofs.Ytlhddiikbfobjaa
open Go.ChangeShapes Go.WideShapes Go.ChangeAt Go.RowKit Go.Joins Go.Deep

theorem box3E (w : World) (t : TypeId) (u v x : Value) : (w.alloc (.cells #[u, v, x] t)).cell? ⟨w.heap.size, 0, none⟩ = some u ∧ (w.alloc (.cells #[u, v, x] t)).cell? ⟨w.heap.size, 1, none⟩ = some v ∧ (w.alloc (.cells #[u, v, x] t)).cell? ⟨w.heap.size, 2, none⟩ = some x := ⟨by simp [go_sem], by simp [go_sem], by simp [go_sem]⟩

end Go.Proofs.Ytlhddiikbfobjaa

/-
  The specification's GetGroup.
-/
namespace Go.Proofs.Ytlhddiikbfobjaa
open Go.ChangeShapes Go.WideShapes Go.ChangeAt Go.RowKit Go.Joins Go.Deep

set_option maxRecDepth 10000 in
set_option maxHeartbeats 1000000 in
theorem sGg_len (a : Option Addr) (n c : Nat) (hn : n ≠ 2) (w : World) :
    Calls Try.prog 88 #[.slice a n c] w fun e w' => ∃ a c b d, e = .returned (.tuple #[.agg #[.slice a 0 c, .slice b 0 d], .bool false]) ∧ OwnG KI 3 w' w.heap.size (.slice a 0 c) [] ∧ OwnG KI 3 w' w.heap.size (.slice b 0 d) [] ∧ (∀ k, (Value.slice a 0 c).ownBlock = some k → (Value.slice b 0 d).ownBlock ≠ some k) ∧ Below w.heap.size w w' := by
  have e1 : ((n : Int) == 2) = false := by simp; omega
  have e2 : ((n : Int) != 2) = true := by simp; omega
  go_enter Try.func88, Try.ntmps88
  go_wp2_with fail
  refine bodyPost_ret (v := .tuple #[.agg #[.slice none 0 0, .slice none 0 0], .bool false]) (by simp [results, Try.results88, go_sem]) rfl ⟨_, _, _, _, rfl, own_noneG KI _ _ _, own_noneG KI _ _ _, (fun k h1 => by cases h1), ?_⟩
  repeat (first | with_reducible exact Below.refl _ _ | (with_reducible refine Below.alloc ?_ ?_ _; rotate_left; (focus (first | omega | (simp; omega) | (simp; done)))) | (with_reducible refine Below.setCell ?_ ?_ _; rotate_left; (focus (first | omega | (simp; omega) | (simp; done)))))

set_option maxRecDepth 10000 in
set_option maxHeartbeats 2000000 in
theorem sPgA_yes (ap : Option Addr) (np cp : Nat) (ab : Option Addr) (nb cb : Nat) (ps bs : List Int) (w : World) (hnp : np = ps.length) (hnb : nb = bs.length) (hP : RowG KI w ap ps) (hK : RowG KI w ab bs) (hl : np ≤ 1048576) (hl' : nb ≤ 1048576) (hr : grB ps bs = true) :
    Calls Try.prog 87 #[.agg #[.slice ap np cp, .slice ab nb cb]] w fun e w' => ∃ a' c', e = .returned (.slice a' 2 c') ∧ OwnG KBy 5 w' w.heap.size (.slice a' 2 c') [byI 0 ps, byI 0 bs] ∧ Below w.heap.size w w' := by
  have hr' := hr
  unfold grB at hr'
  simp only [Bool.and_eq_true] at hr'
  have hq1 := ids_in ps 0 (Int.le_refl _) hr'.1.1
  have hq2 := ids_in bs 0 (Int.le_refl _) hr'.1.2
  have HIm := hidP (fun W h9 => sGroupOk_any ap np cp ab nb cb ps bs W hnp hnb (hP.later h9) (hK.later h9) hl hl')
  rw [hr] at HIm
  have H1 := hidP (fun W h9 => l12Bits_any ap np cp ps W hnp (hP.later h9) hl hq1)
  have H2 := hidP (fun W h9 => l12Bits_any ab nb cb bs W hnb (hK.later h9) hl' hq2)
  generalize byI 0 ps = x1 at *
  generalize byI 0 bs = x2 at *
  clear hP hK hnp hnb hr hr' hq1 hq2
  go_enter Try.func87, Try.ntmps87
  go_wp2_with fail
  obtain ⟨bk0_W1, bk1_W1⟩ := box2D w 26 (.slice ap np cp) (.slice ab nb cb)
  have bkF_W1 : ∀ o, (w.alloc (.cells #[.slice ap np cp, .slice ab nb cb] 26)).frozen? ⟨w.heap.size, o, none⟩ = false := fun o => by simp [go_sem]
  have bkL_W1 : w.heap.size < (w.alloc (.cells #[.slice ap np cp, .slice ab nb cb] 26)).heap.size := by simp
  have ab_W1 := alloc_below w (.cells #[.slice ap np cp, .slice ab nb cb] 26)
  have as_W1 : Hid ((w.alloc (.cells #[.slice ap np cp, .slice ab nb cb] 26)).heap.size = w.heap.size + 1) := hidP (by simp)
  generalize w.alloc (.cells #[.slice ap np cp, .slice ab nb cb] 26) = W1 at *
  have acc_W1 := hidP (ab_W1)
  have sz_W1 : Hid (w.heap.size ≤ W1.heap.size) := hidP ab_W1.size
  clear ab_W1 
  refine (HIm.out _ acc_W1.out).mono ?_
  rintro e w3 ⟨rfl, hb3⟩
  have bk0_w3 := (hb3.cell bkL_W1).trans bk0_W1
  have bk1_w3 := (hb3.cell bkL_W1).trans bk1_W1
  have bkF_w3 : ∀ o, w3.frozen? ⟨w.heap.size, o, none⟩ = false := fun o => (hb3.frozen bkL_W1).trans (bkF_W1 o)
  have bkL_w3 : w.heap.size < w3.heap.size := Nat.lt_of_lt_of_le bkL_W1 hb3.size
  have acc_w3 := hidP (acc_W1.out.trans (hb3.mono acc_W1.out.size))
  have sz_w3 : Hid (W1.heap.size ≤ w3.heap.size) := hidP hb3.size
  clear hb3 bk0_W1 bk1_W1 bkF_W1 bkL_W1 acc_W1
  go_wp2_with fail
  have HSx : Hid (∀ x, Below w3.heap.size w3 x → (x.cell? ⟨w.heap.size, 0, none⟩ = some (.slice ap np cp) ∧ x.cell? ⟨w.heap.size, 1, none⟩ = some (.slice ab nb cb) ∧ Below w3.heap.size w3 x)) := hidP fun x h =>
    ⟨(h.cell bkL_w3).trans bk0_w3, (h.cell bkL_w3).trans bk1_w3, h⟩
  refine wp_region_held_drew (S := (fun x => x.cell? ⟨w.heap.size, 0, none⟩ = some (.slice ap np cp) ∧ x.cell? ⟨w.heap.size, 1, none⟩ = some (.slice ab nb cb) ∧ Below w3.heap.size w3 x)) (by kernel_rfl) ?_ (fun hHeld => ?_)
  · try dsimp only
    exact HSx.out _ ((Below.refl _ _).drew)
  refine tk 0 7 rfl ?_
  simp only [pa]
  refine tk 1 8 rfl ?_
  simp only [pa]
  refine tk 3 10 rfl ?_
  simp only [pa]
  refine tk 4 11 rfl ?_
  simp only [pa]
  refine wpAnyH_ready (rs := [2]) (by kernel_rfl) (by simp) ?_
  refine AllReadyH.cons rfl (fun K hK => ?_) AllReadyH.nil
  go_simp
  go_wp2_with (first | (go_at_call 92; refine (H1.out _ (acc_w3.out.trans ((hHeld.2.2).mono acc_w3.out.size))).mono ?_; rintro e w4 ⟨rfl, hb4⟩; have b4 := (hHeld.2.2).trans (hb4.mono (hHeld.2.2).size)))
  refine hK.out _ _ ?_ (fun hHeld => ?_)
  · try dsimp only
    exact HSx.out _ b4
  clear hK K
  refine wpAnyH_ready (rs := [5]) (by kernel_rfl) (by simp) ?_
  refine AllReadyH.cons rfl (fun K hK => ?_) AllReadyH.nil
  go_simp
  go_wp2_with (first | (go_at_call 92; refine (H2.out _ (acc_w3.out.trans ((hHeld.2.2).mono acc_w3.out.size))).mono ?_; rintro e w5 ⟨rfl, hb5⟩; have b5 := (hHeld.2.2).trans (hb5.mono (hHeld.2.2).size)))
  refine hK.out _ _ ?_ (fun hHeld => ?_)
  · try dsimp only
    exact HSx.out _ b5
  clear hK K
  refine wpAnyH_ready (rs := [6]) (by kernel_rfl) (by simp) ?_
  refine AllReadyH.cons rfl (fun K hK => ?_) AllReadyH.nil
  go_simp
  refine hK.out _ _ ?_ (fun hHeld => ?_)
  · try dsimp only
    exact HSx.out _ ((hHeld.2.2).alloc (hHeld.2.2).size _)
  clear hK K
  refine tk 7 2 rfl ?_
  simp only [pa]
  have HE := hidP (hHeld.2.2)
  refine wpAnyH_done (by kernel_rfl) ?_ _
  clear hHeld
  go_wp2_with fail
  go_ret
  have hz5 : w3.heap.size ≤ w5.heap.size := b5.size
  exact ⟨_, _, rfl, own_two w5 _ _ _ (by have := as_W1.out; have := sz_W1.out; have := sz_w3.out; omega), acc_w3.out.trans (HE.out.mono acc_w3.out.size)⟩

end Go.Proofs.Ytlhddiikbfobjaa

/-
  Both EntryOk: they answer alike.
-/
namespace Go.Proofs.Ytlhddiikbfobjaa
open Go.ChangeShapes Go.WideShapes Go.ChangeAt Go.RowKit Go.Joins Go.Deep

/-- An entry that is right: of its term, its kind, how many bytes its data has, and whether that is a group's. -/
def enB (T K : Int) (n : Nat) (C : Bool) : Bool := (decide (1 ≤ T) && decide (T ≤ 1000000)) && (((K == 1) && ((n : Int) == 0)) || ((K == 2) && decide ((n : Int) ≤ 400)) || ((K == 3) && C))
theorem enB_no {T K : Int} {n : Nat} {C : Bool} (h : (decide (1 ≤ T) && decide (T ≤ 1000000)) = false) : enB T K n C = false := by unfold enB; rw [h]; rfl
theorem enB_1 {T : Int} {n : Nat} {C : Bool} (h : (decide (1 ≤ T) && decide (T ≤ 1000000)) = true) : enB T 1 n C = ((n : Int) == 0) := by unfold enB; rw [h]; simp
theorem enB_2 {T : Int} {n : Nat} {C : Bool} (h : (decide (1 ≤ T) && decide (T ≤ 1000000)) = true) : enB T 2 n C = decide ((n : Int) ≤ 400) := by unfold enB; rw [h]; simp
theorem enB_3 {T : Int} {n : Nat} {C : Bool} (h : (decide (1 ≤ T) && decide (T ≤ 1000000)) = true) : enB T 3 n C = C := by unfold enB; rw [h]; simp
theorem enB_4 {T K : Int} {n : Nat} {C : Bool} (h : (decide (1 ≤ T) && decide (T ≤ 1000000)) = true) (h1 : K ≠ 1) (h2 : K ≠ 2) (h3 : K ≠ 3) : enB T K n C = false := by unfold enB; rw [h]; simp [h1, h2, h3]

end Go.Proofs.Ytlhddiikbfobjaa

/-
  Rows of entries, each with bytes of its own; a Keep as memory holds it, and a right one.
-/
namespace Go.Proofs.Ytlhddiikbfobjaa
open Go.ChangeShapes Go.WideShapes Go.ChangeAt Go.RowKit Go.Joins Go.Deep

/-- An entry: its cells, and what its bytes are. -/
structure En where
  T : Int
  K : Int
  a : Option Addr
  n : Nat
  c : Nat
  zs : List Int
def KEn : Kd En := ⟨3, fun e => [.int .i64 e.T, .int .i64 e.K, .slice e.a e.n e.c], fun _ => rfl, fun x u h => by
  simp at h
  rcases h with rfl | rfl | rfl <;> rfl⟩
theorem Try.tyEn : GTy KEn (.agg #[.int .i64 0, .int .i64 0, .slice none 0 0]) 40 Try.prog 27 65 := ⟨Try.underlying27, by kernel_rfl, rfl, by omega⟩
theorem rowEn {w : World} {a : Option Addr} {es : List En} (h : RowG KEn w a es) (j : Nat) (hj : j < es.length) : ∃ p o e, a = some ⟨p, o, none⟩ ∧ p < w.heap.size ∧ es[j]? = some e ∧
    w.cell? ⟨p, o + j * 3, none⟩ = some (.int .i64 e.T) ∧ w.cell? ⟨p, o + j * 3 + 1, none⟩ = some (.int .i64 e.K) ∧ w.cell? ⟨p, o + j * 3 + 2, none⟩ = some (.slice e.a e.n e.c) := by
  obtain ⟨p, o, q, ha, hp, hq, c⟩ := h j hj
  exact ⟨p, o, q, ha, hp, hq, c 0 _ rfl, c 1 _ rfl, c 2 _ rfl⟩
/-- Its bytes are there. -/
def DatR (w : World) (e : En) : Prop := e.n = e.zs.length ∧ Oct e.zs ∧ RowG KBy w e.a e.zs
theorem DatR.later {w w' : World} {e : En} (h : DatR w e) (hb : Below w.heap.size w w') : DatR w' e := ⟨h.1, h.2.1, h.2.2.later hb⟩
/-- It is right. -/
def En.ok (e : En) : Bool := enB e.T e.K e.n (gB e.zs)
theorem En.ok_g {e : En} (h : e.ok = true) (hk : e.K = 3) : gB e.zs = true := by
  unfold En.ok enB at h
  rw [hk] at h
  simp at h
  exact h.2
set_option maxRecDepth 10000 in
set_option maxHeartbeats 2000000 in
theorem iEntryOkA (a : Option Addr) (n c : Nat) (T K : Int) (C : Bool) (w : World)
    (HG : K = 3 → ∀ W, Below w.heap.size w W → Calls Try.prog 31 #[.slice a n c] W fun e w' => ∃ a n c b m d, e = .returned (.tuple #[.agg #[.slice a n c, .slice b m d], .bool C]) ∧ Below W.heap.size W w') :
    Calls Try.prog 89 #[.agg #[.int .i64 T, .int .i64 K, .slice a n c]] w fun e w' => e = .returned (.bool (enB T K n C)) ∧ Below w.heap.size w w' := by
  cases ht : (decide (1 ≤ T) && decide (T ≤ 1000000))
  · rw [enB_no ht]
    clear HG
    by_cases t1 : T < 1
    · have t3 : decide (T < 1) = true := decide_eq_true t1
      go_enter Try.func89, Try.ntmps89
      go_wp2_with fail
      go_ret
      exact ⟨rfl, alloc_below _ _⟩
    · have t3 : decide (T < 1) = false := decide_eq_false t1
      have t2 : T > 1000000 := by simp at ht; omega
      have t4 : decide (T > 1000000) = true := decide_eq_true t2
      go_enter Try.func89, Try.ntmps89
      go_wp2_with fail
      go_ret
      exact ⟨rfl, alloc_below _ _⟩
  · have t1 : ¬ T < 1 := by simp at ht; omega
    have t2 : ¬ T > 1000000 := by simp at ht; omega
    have t3 : decide (T < 1) = false := decide_eq_false t1
    have t4 : decide (T > 1000000) = false := decide_eq_false t2
    by_cases h1 : K = 1
    · subst h1
      rw [enB_1 ht]
      clear HG
      go_enter Try.func89, Try.ntmps89
      go_wp2_with fail
      go_ret
      exact ⟨rfl, alloc_below _ _⟩
    have k1 : (K == 1) = false := by simpa using h1
    by_cases h2 : K = 2
    · subst h2
      rw [enB_2 ht]
      clear HG
      go_enter Try.func89, Try.ntmps89
      go_wp2_with fail
      go_ret
      exact ⟨rfl, alloc_below _ _⟩
    have k2 : (K == 2) = false := by simpa using h2
    by_cases h3 : K = 3
    · subst h3
      rw [enB_3 ht]
      have HGG := hidP (HG rfl)
      clear HG
      go_enter Try.func89, Try.ntmps89
      go_wp2_with fail
      refine (HGG.out _ (alloc_below _ _)).mono ?_
      rintro e w2 ⟨a1, n1, c1, b1, m1, d1, rfl, hb2⟩
      have HB := hidP hb2
      clear hb2
      go_wp2_with fail
      go_ret
      refine ⟨rfl, ?_⟩
      have hz := HB.out.size
      simp at hz
      repeat (first | with_reducible exact Below.refl _ _ | with_reducible exact (alloc_below w _).trans (HB.out.mono (alloc_below w _).size) | (with_reducible refine Below.drew ?_) | (with_reducible refine Below.alloc ?_ ?_ _; rotate_left; (focus (first | omega | (simp; omega) | (simp; done)))) | (with_reducible refine Below.setCell ?_ ?_ _; rotate_left; (focus (first | omega | (simp; omega) | (simp; done)))))
    have k3 : (K == 3) = false := by simpa using h3
    rw [enB_4 ht h1 h2 h3]
    clear HG
    go_enter Try.func89, Try.ntmps89
    go_wp2_with fail
    go_ret
    exact ⟨rfl, alloc_below _ _⟩

set_option maxHeartbeats 1000000 in
theorem iEntry_any (e : En) (w : World) (hd : DatR w e) :
    Calls Try.prog 89 #[.agg #[.int .i64 e.T, .int .i64 e.K, .slice e.a e.n e.c]] w fun x w' => x = .returned (.bool e.ok) ∧ Below w.heap.size w w' := by
  have h := (fun W (hb : Below w.heap.size w W) => iGet_any e.a e.n e.c e.zs W hd.1 hd.2.1 (hd.2.2.later hb))
  exact iEntryOkA e.a e.n e.c e.T e.K (gB e.zs) w (fun _ W hb => (h W hb).mono fun x w' ⟨a1, n1, c1, b1, m1, d1, ps, bs, he, _, _, _, _, _, _, _, hb'⟩ => ⟨a1, n1, c1, b1, m1, d1, he, hb'⟩)

/-- A Keep's cells, and what its rows hold. -/
structure Kv where
  T : Int
  V : Int
  B : Int
  E : Int
  ga : Option Addr
  gn : Nat
  gc : Nat
  ha : Option Addr
  hn : Nat
  hc : Nat
  sa : Option Addr
  sn : Nat
  sc : Nat
  la : Option Addr
  ln : Nat
  lc : Nat
  ps : List Int
  bs : List Int
  es : List En
abbrev Kv.v (k : Kv) : Value := .agg #[.int .i64 k.T, .int .i64 k.V, .int .i64 k.B, .int .i64 k.E, .slice k.ga k.gn k.gc, .slice k.ha k.hn k.hc, .slice k.sa k.sn k.sc, .slice k.la k.ln k.lc]
/-- It can be read. -/
structure KvR (w : World) (k : Kv) : Prop where
  hg : k.gn = k.ps.length
  hh : k.hn = k.bs.length
  hl : k.ln = k.es.length
  rg : RowG KI w k.ga k.ps
  rh : RowG KI w k.ha k.bs
  rl : RowG KEn w k.la k.es
  dt : ∀ e ∈ k.es, DatR w e
theorem KvR.later {w w' : World} {k : Kv} (h : KvR w k) (hb : Below w.heap.size w w') : KvR w' k := ⟨h.hg, h.hh, h.hl, h.rg.later hb, h.rh.later hb, h.rl.later hb, fun e he => (h.dt e he).later hb⟩
/-- The terms never fall, from one on. -/
def risE : Int → List En → Bool
  | _, [] => true
  | l, e :: t => (e.ok && decide (l ≤ e.T)) && risE e.T t
/-- The last term. -/
def lasE : Int → List En → Int
  | l, [] => l
  | _, e :: t => lasE e.T t
structure KvOk (k : Kv) : Prop where
  t0 : 0 ≤ k.T
  t1 : k.T ≤ 1000000
  v0 : 0 ≤ k.V
  v1 : k.V ≤ 7
  bs : (k.B = 0 ∧ k.E = 0 ∧ k.sn = 0) ∨ (1 ≤ k.B ∧ k.B ≤ 1000000 ∧ 1 ≤ k.E ∧ k.E ≤ k.T ∧ k.sn ≤ 20000)
  gr : grB k.ps k.bs = true
  gs : k.ps.length ≤ 1048576 ∧ k.bs.length ≤ 1048576
  lg : k.es.length ≤ 120
  lx : k.B + (k.es.length : Int) ≤ 1000000
  rs : risE k.E k.es = true
  la : lasE k.E k.es ≤ k.T

end Go.Proofs.Ytlhddiikbfobjaa

/-
  The program's looks at a right Keep: it is right; its last index, its terms.
-/
namespace Go.Proofs.Ytlhddiikbfobjaa
open Go.ChangeShapes Go.WideShapes Go.ChangeAt Go.RowKit Go.Joins Go.Deep

theorem dropE {es : List En} {i : Nat} {e : En} (h : es[i]? = some e) : es.drop i = e :: es.drop (i + 1) := by
  obtain ⟨hi, rfl⟩ := List.getElem?_eq_some_iff.1 h
  exact List.drop_eq_getElem_cons hi

set_option maxRecDepth 10000 in
set_option maxHeartbeats 2000000 in
theorem baseOk_yes (k : Kv) (ho : KvOk k) (w : World) :
    Calls Try.prog 27 #[k.v] w fun e w' => e = .returned (.bool true) ∧ Below w.heap.size w w' := by
  obtain ⟨T, V, B, E, ga, gn, gc, ha, hn, hc, sa, sn, sc, la, ln, lc, ps, bs, es⟩ := k
  have hb := ho.bs
  simp only at hb
  clear ho
  rcases hb with ⟨h1, h2, h3⟩ | ⟨h1, h2, h3, h4, h5⟩
  · subst h1 h2 h3
    go_enter Try.func27, Try.ntmps27
    go_wp2_with fail
    go_ret
    exact ⟨rfl, alloc_below w _⟩
  · have e1 : (B == 0) = false := by simp; omega
    have e2 : decide (1 ≤ B) = true := decide_eq_true h1
    have e3 : decide (B ≤ 1000000) = true := decide_eq_true h2
    have e4 : decide (1 ≤ E) = true := decide_eq_true h3
    have e5 : decide (E ≤ T) = true := decide_eq_true h4
    have e6 : decide ((sn : Int) ≤ 20000) = true := decide_eq_true (by omega)
    go_enter Try.func27, Try.ntmps27
    go_wp2_with fail
    go_ret
    exact ⟨rfl, alloc_below w _⟩

theorem risE_split (l : Int) (e : En) (t : List En) : risE l (e :: t) = ((e.ok && decide (l ≤ e.T)) && risE e.T t) := rfl
theorem lasE_cons (l : Int) (e : En) (t : List En) : lasE l (e :: t) = lasE e.T t := rfl

set_option maxRecDepth 10000 in
set_option maxHeartbeats 4000000 in
theorem entriesOk_any (la : Option Addr) (ln lc : Nat) (es : List En) (E T : Int) (w : World) (hl : ln = es.length) (hz : ln ≤ 1048576)
    (hR : RowG KEn w la es) (hD : ∀ e ∈ es, DatR w e) :
    Calls Try.prog 66 #[.slice la ln lc, .int .i64 E, .int .i64 T] w fun e w' => e = .returned (.bool (risE E es && decide (lasE E es ≤ T))) ∧ Below w.heap.size w w' := by
  have HR := hidP (And.intro hR hD)
  have HN := hidP hl
  clear hR hD hl
  go_enter Try.func66, Try.ntmps66
  go_wp2_with fail
  go_loopw [7, 9, 13] (fun t7 _ t13 wr => ∃ (i : Nat) (l : Int), i ≤ ln ∧ t13 = .int .i64 i ∧ t7 = .int .i64 l ∧ (risE l (es.drop i) && decide (lasE l (es.drop i) ≤ T)) = (risE E es && decide (lasE E es ≤ T)) ∧ Below w.heap.size w wr) (fun _ _ t13 _ => ln - (intOf t13).toNat)
  case atStart => exact ⟨0, E, Nat.zero_le _, rfl, rfl, rfl, Below.refl _ _⟩
  case round =>
    obtain ⟨i, l, hin, rfl, rfl, h1, hbr⟩ := hrel
    have HB := hidP hbr
    by_cases hlt : i < ln
    · obtain ⟨p, o, e, rfl, hp, he, c0, c1, c2⟩ := rowEn HR.out.1 i (by have := HN.out; omega)
      rw [dropE he, risE_split, lasE_cons] at h1
      have hD := (HR.out.2 e (List.mem_of_getElem? he)).later hbr
      have HE := hidP (fun W (hb : Below wr.heap.size wr W) => iEntry_any e W (hD.later hb))
      have x0 := (hbr.cell hp).trans c0
      have x1 := (hbr.cell hp).trans c1
      have x2 := (hbr.cell hp).trans c2
      have HS := hidP h1
      have i0 : (0 : Int) ≤ (i : Int) := by omega
      have i1 : (i : Int) < (ln : Int) := by omega
      clear c0 c1 c2 h1 hD hbr he hp
      cases ho : e.ok
      · rw [ho] at HE HS
        go_wp2_with fail
        obtain ⟨y0, y1, y2⟩ := box3E wr 65 (.int .i64 e.T) (.int .i64 e.K) (.slice e.a e.n e.c)
        have yB := alloc_below wr (.cells #[.int .i64 e.T, .int .i64 e.K, .slice e.a e.n e.c] 65)
        have yL : wr.heap.size < (wr.alloc (.cells #[.int .i64 e.T, .int .i64 e.K, .slice e.a e.n e.c] 65)).heap.size := by simp
        generalize wr.alloc (.cells #[.int .i64 e.T, .int .i64 e.K, .slice e.a e.n e.c] 65) = W2 at *
        refine (HE.out _ yB).mono ?_
        rintro x w3 ⟨rfl, hb3⟩
        have z0 := (hb3.cell yL).trans y0
        have HF := hidP (HB.out.trans ((yB.trans (hb3.mono yB.size)).mono HB.out.size))
        clear y0 y1 y2 yB hb3
        go_wp2_with fail
        go_ret
        exact ⟨by rw [← HS.out]; rfl, HF.out⟩
      · rw [ho] at HE HS
        by_cases t9 : e.T < l
        · have t1 : decide (e.T < l) = true := decide_eq_true t9
          have t2 : decide (l ≤ e.T) = false := decide_eq_false (by omega)
          rw [t2] at HS
          clear t2
          go_wp2_with fail
          obtain ⟨y0, y1, y2⟩ := box3E wr 65 (.int .i64 e.T) (.int .i64 e.K) (.slice e.a e.n e.c)
          have yB := alloc_below wr (.cells #[.int .i64 e.T, .int .i64 e.K, .slice e.a e.n e.c] 65)
          have yL : wr.heap.size < (wr.alloc (.cells #[.int .i64 e.T, .int .i64 e.K, .slice e.a e.n e.c] 65)).heap.size := by simp
          generalize wr.alloc (.cells #[.int .i64 e.T, .int .i64 e.K, .slice e.a e.n e.c] 65) = W2 at *
          refine (HE.out _ yB).mono ?_
          rintro x w3 ⟨rfl, hb3⟩
          have z0 := (hb3.cell yL).trans y0
          have HF := hidP (HB.out.trans ((yB.trans (hb3.mono yB.size)).mono HB.out.size))
          clear y0 y1 y2 yB hb3
          go_wp2_with fail
          go_ret
          exact ⟨by rw [← HS.out]; rfl, HF.out⟩
        · have t1 : decide (e.T < l) = false := decide_eq_false t9
          have t2 : decide (l ≤ e.T) = true := decide_eq_true (by omega)
          rw [t2] at HS
          clear t2
          go_wp2_with fail
          obtain ⟨y0, y1, y2⟩ := box3E wr 65 (.int .i64 e.T) (.int .i64 e.K) (.slice e.a e.n e.c)
          have yB := alloc_below wr (.cells #[.int .i64 e.T, .int .i64 e.K, .slice e.a e.n e.c] 65)
          have yL : wr.heap.size < (wr.alloc (.cells #[.int .i64 e.T, .int .i64 e.K, .slice e.a e.n e.c] 65)).heap.size := by simp
          generalize wr.alloc (.cells #[.int .i64 e.T, .int .i64 e.K, .slice e.a e.n e.c] 65) = W2 at *
          refine (HE.out _ yB).mono ?_
          rintro x w3 ⟨rfl, hb3⟩
          have z0 := (hb3.cell yL).trans y0
          have HF := hidP (HB.out.trans ((yB.trans (hb3.mono yB.size)).mono HB.out.size))
          clear y0 y1 y2 yB hb3
          go_wp2_with fail
          go_roundw
          case rel => exact ⟨i + 1, e.T, by omega, by go_num, rfl, HS.out, HF.out⟩
          case measure => simp [intOf]; omega
    · have hiE : i = ln := by omega
      subst hiE
      have HS := hidP h1
      clear h1 hbr
      by_cases e1 : l ≤ T
      · have e2 : decide (l ≤ T) = true := decide_eq_true e1
        go_wp2_with fail
        go_ret
        have := HS.out
        rw [List.drop_of_length_le (by have := HN.out; omega)] at this
        exact ⟨by rw [← this]; simp [risE, lasE, e1], HB.out⟩
      · have e2 : decide (l ≤ T) = false := decide_eq_false e1
        go_wp2_with fail
        go_ret
        have := HS.out
        rw [List.drop_of_length_le (by have := HN.out; omega)] at this
        exact ⟨by rw [← this]; show _ = Ending.returned (.bool (true && decide (l ≤ T))); rw [e2]; rfl, HB.out⟩

end Go.Proofs.Ytlhddiikbfobjaa
