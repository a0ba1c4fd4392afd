/-
  Carving, plainly: the first free block is right, lies in its pool and is none of the blocks; where it goes in.
-/
import Derived.Test.YtdbcdichmmcnbaaGreatZK25
import Derived.Test.YtdbcdichmmcnbaaGreatZK31
import Derived.Test.YtdbcdichmmcnbaaGreatZK36
import Derived.Test.YtdbcdichmmcnbaaGreatZK38
namespace Go.Proofs.YtdbcdichmmcnbaaGreat
open Go.RowKit Go.Maps

def cvPG (p : Pf) : Value := .agg #[.bool p.s, .int .i64 p.H.toInt, .int .i64 p.L.toInt, .int .i64 p.b]
def cvFF (pool : Pf) (us : List Pf) (bits : Int) (zs : List Sp) : Prop := ∀ (a : Option Addr) (cap : Nat) (w : World), Row w a us → Calls Tryz.prog 36 #[cvPG pool, .slice a us.length cap, .int .i64 bits] w fun e w' => e = .returned (frsV bits zs) ∧ Below w.heap.size w w'
def cvFS (pool : Pf) (us : List Pf) (bits : Int) (zs : List Sp) : Prop := ∀ (a : Option Addr) (cap : Nat) (w : World), Row w a us → Calls Tryz.prog 45 #[cvPG pool, .slice a us.length cap, .int .i64 bits] w fun e w' => e = .returned (frsV bits zs) ∧ Below w.heap.size w w'
theorem cv_pre : ∀ ps : List Pf, ps.all Pf.pok = true → ∃ xs : List Sp, (∀ t ∈ xs, t.ok) ∧ xs.map Sp.pre = ps
  | [], _ => ⟨[], (fun _ h => by cases h), rfl⟩
  | p :: ps, h => by
      rw [List.all_cons, Bool.and_eq_true] at h
      obtain ⟨x, hx, e⟩ := Sp.of_pok (p := p) h.1
      obtain ⟨xs, hxs, e2⟩ := cv_pre ps h.2
      refine ⟨x :: xs, fun t ht => ?_, by rw [List.map_cons, e, e2]⟩
      rcases List.mem_cons.1 ht with rfl | ht
      · exact hx
      · exact hxs t ht
theorem cv_room {d : Bool} {bits : Int} {s : Nat} (hs : (s : Int) = (wd d : Int) - bits) (zs : List Sp) (h : ∀ z ∈ zs, z.s = d) : zs.filter (roomP bits) = zs.filter (rmB s) := by
  refine List.filter_congr fun z hz => ?_
  unfold roomP rmB
  rw [h z hz]
  exact decide_eq_decide.2 (by omega)
/-- Both FirstFree answer alike of a right pool and right blocks; what they find is right, lies in the pool and overlaps no block. -/
theorem cv_first (pool : Pf) (hk : pool.pk = true) (us : List Pf) (hu : ∀ u ∈ us, u.pk = true) (hl : us.length ≤ 60) (bits : Int) :
    ∃ zs : List Sp, cvFF pool us bits zs ∧ cvFS pool us bits zs ∧ ∀ z r, zs = z :: r → (⟨z.s, z.H, z.L, bits⟩ : Pf).pk = true ∧ winP ⟨z.s, z.H, z.L, bits⟩ pool = true ∧ ∀ u ∈ us, ovP u ⟨z.s, z.H, z.L, bits⟩ = false := by
  have hall : us.all Pf.pok = true := List.all_eq_true.2 fun u h => hu u h
  have hr2 : rightP us = true := by unfold rightP; rw [hall, Bool.true_and]; exact decide_eq_true (by omega)
  obtain ⟨x, hx, rfl⟩ := Sp.of_pok (p := pool) hk
  obtain ⟨T, hT, rfl⟩ := cv_pre us hall
  have hlen : (T.map Sp.pre).length = T.length := List.length_map ..
  have hlT : T.length ≤ 60 := by rw [hlen] at hl; exact hl
  refine ⟨partL x.pre.s bits (leftM x.n x T), fun a cap w h => ?_, fun a cap w h => ?_, fun z r hz => ?_⟩
  · rw [hlen]
    exact iFirst x.pre a T.length cap bits w _ (part_gives x.pre a T.length cap bits w _ (left_yes x hx a cap T hT w h (by omega)))
  · cases ha : askB x.pre (T.map Sp.pre) bits
    · rw [part_not hx hr2 ha]
      exact sFirst_no x.pre a cap (T.map Sp.pre) bits w h (by rw [hlen]; omega) ha
    · have h3 := sFirst_yes x hx a cap T hT bits w h (by omega) ha
      rw [← part_yes ha] at h3
      rw [hlen]
      exact h3
  · have e : x.pre.s = x.s := rfl
    have hb : bits ≤ (wd x.s : Int) := by
      unfold partL at hz
      split at hz
      · cases hz
      · rename_i h; rw [e] at h; omega
    obtain ⟨s, hs⟩ : ∃ s : Nat, (s : Int) = (wd x.s : Int) - bits := ⟨((wd x.s : Int) - bits).toNat, by omega⟩
    have hzs : ∀ z ∈ leftM x.n x T, z.s = x.s := fun z hz => (left_sub x.n x T hx rfl z hz).1
    have hm : z ∈ (leftM x.n x T).filter (rmB s) := by
      have : z ∈ partL x.pre.s bits (leftM x.n x T) := by rw [hz]; exact List.mem_cons_self ..
      unfold partL at this
      rw [e, if_neg (by omega), cv_room hs _ hzs] at this
      exact this
    obtain ⟨hm, hsn⟩ := List.mem_filter.1 hm
    have hsn : s ≤ z.n := of_decide_eq_true hsn
    have zs := hzs z hm
    obtain ⟨zok, zin, zfr⟩ := left_part x.n x T hx rfl z hm
    have pok := subN_ok zok hsn
    have pin := subN_in zok hsn
    have hp : (⟨z.s, z.H, z.L, bits⟩ : Pf) = (subN z s).pre := by
      unfold Sp.pre subN
      simp only [Pf.mk.injEq, true_and]
      rw [zs]; omega
    have pinx := wB_trans pin zin
    rw [hp]
    refine ⟨pok.pok, (win_wB pok hx).trans pinx, fun u hu' => ?_⟩
    obtain ⟨t, ht, rfl⟩ := List.mem_map.1 hu'
    have h1 : wB (subN z s) t = false := by
      rw [Bool.eq_false_iff]; intro h
      rcases wB_nest h pin with h1 | h1
      · rw [(zfr t ht).2] at h1; cases h1
      · rw [(zfr t ht).1] at h1; cases h1
    have h2 : wB t (subN z s) = false := by
      rw [Bool.eq_false_iff]; intro h
      have := (zfr t ht).2
      rw [wB_trans h pin] at this; cases this
    have e1 := win_wB pok (hT t ht)
    have e2 := win_wB (hT t ht) pok
    rw [h1] at e1
    rw [h2] at e2
    show (winB t.s t.H t.L ((wd t.s : Int) - t.n) (subN z s).s (subN z s).H (subN z s).L ((wd (subN z s).s : Int) - (subN z s).n) || winB (subN z s).s (subN z s).H (subN z s).L ((wd (subN z s).s : Int) - (subN z s).n) t.s t.H t.L ((wd t.s : Int) - t.n)) = false
    rw [e1, e2]; rfl

theorem cmp_tot {p q : Pf} (h1 : ¬ cmpP p q < 0) (h2 : ¬ cmpP q p < 0) : p = q := by
  rw [cmp_neg] at h1 h2
  have hs : p.s = q.s := by cases hx : p.s <;> cases hy : q.s <;> simp [hx, hy] at h1 h2 ⊢
  have ha : p.ad = q.ad := by
    rcases Nat.lt_trichotomy p.ad q.ad with h | h | h
    · exact absurd (Or.inl (Or.inr ⟨hs, h⟩)) h1
    · exact h
    · exact absurd (Or.inl (Or.inr ⟨hs.symm, h⟩)) h2
  have hb : p.b = q.b := by
    rcases Int.lt_trichotomy p.b q.b with h | h | h
    · exact absurd (Or.inr ⟨hs, ha, h⟩) h1
    · exact h
    · exact absurd (Or.inr ⟨hs.symm, ha.symm, h⟩) h2
  have hHL := adrN_inj (show adrN p.H p.L = adrN q.H q.L from ha)
  cases p; cases q
  simp only at hs hb hHL
  rw [hs, hb, hHL.1, hHL.2]
/-- A block put in its place. -/
def insB (q : Bk) : List Bk → List Bk
  | [] => [q]
  | r :: t => if cmpP r.p q.p < 0 then r :: insB q t else q :: r :: t
theorem ins_perm (q : Bk) : ∀ bs : List Bk, (insB q bs).Perm (q :: bs)
  | [] => List.Perm.refl _
  | r :: t => by
      unfold insB
      split
      · exact (List.Perm.cons r (ins_perm q t)).trans (List.Perm.swap q r t)
      · exact List.Perm.refl _
theorem ins_len (q : Bk) (bs : List Bk) : (insB q bs).length = bs.length + 1 := (ins_perm q bs).length_eq.trans List.length_cons
theorem ins_sorted (q : Bk) : ∀ bs : List Bk, bs.Pairwise (fun q r => cmpP q.p r.p < 0) → (∀ r ∈ bs, r.p ≠ q.p) → (insB q bs).Pairwise (fun q r => cmpP q.p r.p < 0)
  | [], _, _ => List.pairwise_singleton ..
  | r :: t, h, hn => by
      obtain ⟨h1, h2⟩ := List.pairwise_cons.1 h
      unfold insB
      split
      · rename_i hc
        refine List.pairwise_cons.2 ⟨fun x hx => ?_, ins_sorted q t h2 (fun y hy => hn y (List.mem_cons_of_mem _ hy))⟩
        rcases List.mem_cons.1 ((ins_perm q t).mem_iff.1 hx) with rfl | hx
        · exact hc
        · exact h1 x hx
      · rename_i hc
        have hq : cmpP q.p r.p < 0 := by
          by_cases hd : cmpP q.p r.p < 0
          · exact hd
          · exact absurd (cmp_tot hc hd) (hn r List.mem_cons_self)
        refine List.pairwise_cons.2 ⟨fun x hx => ?_, h⟩
        rcases List.mem_cons.1 hx with rfl | hx
        · exact hq
        · exact cmp_trans hq (h1 x hx)
theorem ins_one (q : Bk) (bs R : List Bk) (h : bs.Pairwise (fun q r => cmpP q.p r.p < 0)) (hn : ∀ r ∈ bs, r.p ≠ q.p) (hp : R.Perm (bs ++ [q])) (hs : R.Pairwise (fun x y => ¬ cmpP y.p x.p < 0)) : R = insB q bs :=
  sorted_one _ R (hp.trans ((List.perm_append_comm (l₁ := bs) (l₂ := [q])).trans (ins_perm q bs).symm)) (ins_sorted q bs h hn) hs
/-- Where the last m.. blocks are above it and the one ahead is not, it goes in there. -/
theorem ins_at (q : Bk) : ∀ (bs : List Bk) (m : Nat), bs.Pairwise (fun q r => cmpP q.p r.p < 0) → m ≤ bs.length → (∀ j r, m ≤ j → bs[j]? = some r → ¬ cmpP r.p q.p < 0) → (∀ j r, j + 1 = m → bs[j]? = some r → cmpP r.p q.p < 0) → bs.take m ++ q :: bs.drop m = insB q bs
  | [], m, _, hm, _, _ => by have : m = 0 := by simpa using hm
                             subst this; rfl
  | r :: t, 0, _, _, h1, _ => by
      have := h1 0 r (Nat.le_refl _) rfl
      unfold insB
      rw [if_neg this]; rfl
  | r :: t, m + 1, hs, hm, h1, h2 => by
      obtain ⟨s1, s2⟩ := List.pairwise_cons.1 hs
      have hr : cmpP r.p q.p < 0 := by
        cases m with
        | zero => exact h2 0 r rfl rfl
        | succ n =>
          have hn : n < t.length := by simp at hm; omega
          have h3 := h2 (n + 1) t[n] rfl (by simp [hn])
          exact cmp_trans (s1 t[n] (List.getElem_mem hn)) h3
      unfold insB
      rw [if_pos hr, List.take_succ_cons, List.drop_succ_cons, List.cons_append]
      rw [ins_at q t m s2 (by simpa using hm) (fun j x hj hx => h1 (j + 1) x (by omega) (by simpa using hx)) (fun j x hj hx => h2 (j + 1) x (by omega) (by simpa using hx))]

/-- What Carve makes: the blocks, the prefix, the code. -/
structure CvO where
  b : List Bk
  f : Pf
  c : Int
def zPf : Pf := ⟨false, 0, 0, 0⟩
def cvO (ps : List Pl) (bs : List Bk) (pt : Pf) (ow : ByteArray) (bits : Int) (zs : List Sp) : CvO :=
  if planB ps bs = false then ⟨bs, zPf, 1⟩ else if pt.pk = false then ⟨bs, zPf, 1⟩ else if ownB ow = false then ⟨bs, zPf, 1⟩ else if plc pt ps < 0 then ⟨bs, zPf, 4⟩ else if bs.length = 60 then ⟨bs, zPf, 2⟩ else
    match zs with
    | [] => ⟨bs, zPf, 5⟩
    | z :: _ => ⟨insB ⟨⟨z.s, z.H, z.L, bits⟩, ow⟩ bs, ⟨z.s, z.H, z.L, bits⟩, 0⟩
variable {ps : List Pl} {bs : List Bk} {pt : Pf} {ow : ByteArray} {bits : Int} {zs : List Sp}
theorem cv1 (h : planB ps bs = false) : cvO ps bs pt ow bits zs = ⟨bs, zPf, 1⟩ := by unfold cvO; rw [if_pos h]
theorem cv2 (h : planB ps bs = true) (h2 : pt.pk = false) : cvO ps bs pt ow bits zs = ⟨bs, zPf, 1⟩ := by unfold cvO; rw [if_neg (by rw [h]; decide), if_pos h2]
theorem cv3 (h : planB ps bs = true) (h2 : pt.pk = true) (h3 : ownB ow = false) : cvO ps bs pt ow bits zs = ⟨bs, zPf, 1⟩ := by unfold cvO; rw [if_neg (by rw [h]; decide), if_neg (by rw [h2]; decide), if_pos h3]
theorem cv4 (h : planB ps bs = true) (h2 : pt.pk = true) (h3 : ownB ow = true) (h4 : plc pt ps < 0) : cvO ps bs pt ow bits zs = ⟨bs, zPf, 4⟩ := by unfold cvO; rw [if_neg (by rw [h]; decide), if_neg (by rw [h2]; decide), if_neg (by rw [h3]; decide), if_pos h4]
theorem cv5 (h : planB ps bs = true) (h2 : pt.pk = true) (h3 : ownB ow = true) (h4 : ¬ plc pt ps < 0) (h5 : bs.length = 60) : cvO ps bs pt ow bits zs = ⟨bs, zPf, 2⟩ := by unfold cvO; rw [if_neg (by rw [h]; decide), if_neg (by rw [h2]; decide), if_neg (by rw [h3]; decide), if_neg h4, if_pos h5]
theorem cv6 (h : planB ps bs = true) (h2 : pt.pk = true) (h3 : ownB ow = true) (h4 : ¬ plc pt ps < 0) (h5 : ¬ bs.length = 60) : cvO ps bs pt ow bits [] = ⟨bs, zPf, 5⟩ := by unfold cvO; rw [if_neg (by rw [h]; decide), if_neg (by rw [h2]; decide), if_neg (by rw [h3]; decide), if_neg h4, if_neg h5]
theorem cv7 {z : Sp} {r : List Sp} (h : planB ps bs = true) (h2 : pt.pk = true) (h3 : ownB ow = true) (h4 : ¬ plc pt ps < 0) (h5 : ¬ bs.length = 60) : cvO ps bs pt ow bits (z :: r) = ⟨insB ⟨⟨z.s, z.H, z.L, bits⟩, ow⟩ bs, ⟨z.s, z.H, z.L, bits⟩, 0⟩ := by unfold cvO; rw [if_neg (by rw [h]; decide), if_neg (by rw [h2]; decide), if_neg (by rw [h3]; decide), if_neg h4, if_neg h5]
theorem fil_pk {bs : List Bk} {pt : Pf} : ∀ u ∈ fil bs pt, u.pk = true := fun u hu => by
  unfold fil at hu
  obtain ⟨b, hb, rfl⟩ := List.mem_map.1 hu
  exact (win_pk (List.mem_filter.1 hb).2).1
theorem fil_len' (bs : List Bk) (pt : Pf) : (fil bs pt).length ≤ bs.length := by unfold fil; rw [List.length_map]; exact List.length_filter_le ..
/-- A free block of the pool is none of the blocks. -/
theorem fil_new {bs : List Bk} {pt f : Pf} (hw : winP f pt = true) (ho : ∀ u ∈ fil bs pt, ovP u f = false) : ∀ r ∈ bs, r.p ≠ f := fun r hr e => by
  subst e
  have h1 := ho r.p (List.mem_map.2 ⟨r, List.mem_filter.2 ⟨hr, hw⟩, rfl⟩)
  unfold ovP at h1
  rw [win_self (win_pk hw).1] at h1
  cases h1
/-- The pool at its place. -/
theorem plc_at : ∀ (ps : List Pl) (i : Int), ixF (fun q => peqB q.p pt) i ps = -1 ∨ ∃ (j : Nat) (q : Pl), ixF (fun q => peqB q.p pt) i ps = i + (j : Int) ∧ ps[j]? = some q
  | [], i => Or.inl rfl
  | q :: t, i => by
      unfold ixF
      split
      · exact Or.inr ⟨0, q, by simp, rfl⟩
      · rcases plc_at t (i + 1) with h | ⟨j, r, h, e⟩
        · exact Or.inl h
        · exact Or.inr ⟨j + 1, r, by rw [h]; omega, by simpa using e⟩
theorem plc_get {pt : Pf} {ps : List Pl} (h : ¬ plc pt ps < 0) : ∃ (j : Nat) (q : Pl), plc pt ps = (j : Int) ∧ ps[j]? = some q := by
  rcases plc_at (pt := pt) ps 0 with h1 | ⟨j, q, h1, h2⟩
  · exact absurd (show plc pt ps < 0 by unfold plc; rw [h1]; omega) h
  · exact ⟨j, q, by unfold plc; rw [h1]; omega, h2⟩

theorem box2C (w : World) (t : TypeId) (u v : Value) : (w.alloc (.cells #[u, v] t)).cell? ⟨w.heap.size, 0, none⟩ = some u ∧ (w.alloc (.cells #[u, v] t)).cell? ⟨w.heap.size, 1, none⟩ = some v := ⟨by simp [go_sem], by simp [go_sem]⟩
theorem box4C (w : World) (t : TypeId) (u v x y : Value) : (w.alloc (.cells #[u, v, x, y] t)).cell? ⟨w.heap.size, 0, none⟩ = some u ∧ (w.alloc (.cells #[u, v, x, y] t)).cell? ⟨w.heap.size, 1, none⟩ = some v ∧ (w.alloc (.cells #[u, v, x, y] t)).cell? ⟨w.heap.size, 2, none⟩ = some x ∧ (w.alloc (.cells #[u, v, x, y] t)).cell? ⟨w.heap.size, 3, none⟩ = some y := ⟨by simp [go_sem], by simp [go_sem], by simp [go_sem], by simp [go_sem]⟩
theorem OwnG.ne_ofC {α : Type} {K : Kd α} {t : TypeId} {w : World} {B x : Nat} {v : Value} {ps : List α} (h : OwnG K t w B v ps) (hx : x < B) : ∀ k, v.ownBlock = some k → some x ≠ some k := fun k hk e => by
  have := (OwnG.lt h k hk).1
  simp at e; omega
theorem cellC {w : World} {x b o i : Nat} {u v : Value} (h : w.cell? ⟨b, o, none⟩ = some v) (hb : b ≠ x) : (w.setCell ⟨x, i, none⟩ u).cell? ⟨b, o, none⟩ = some v := by
  rw [World.cell?_of_block (heap_setCell_other _ ⟨x, i, none⟩ b _ (by simpa using hb))]; exact h
theorem frzC {w : World} {x b o i : Nat} {u : Value} (h : w.frozen? ⟨b, o, none⟩ = false) : (w.setCell ⟨x, i, none⟩ u).frozen? ⟨b, o, none⟩ = false := by simp [go_sem, h]

theorem box4Z (w : World) (t : TypeId) : (w.alloc (.cells #[.bool false, .int .i64 0, .int .i64 0, .int .i64 0] t)).cell? ⟨w.heap.size, 0, none⟩ = some (.bool false) ∧ (w.alloc (.cells #[.bool false, .int .i64 0, .int .i64 0, .int .i64 0] t)).cell? ⟨w.heap.size, 1, none⟩ = some (.int .i64 0) ∧ (w.alloc (.cells #[.bool false, .int .i64 0, .int .i64 0, .int .i64 0] t)).cell? ⟨w.heap.size, 2, none⟩ = some (.int .i64 0) ∧ (w.alloc (.cells #[.bool false, .int .i64 0, .int .i64 0, .int .i64 0] t)).cell? ⟨w.heap.size, 3, none⟩ = some (.int .i64 0) := box4C w t _ _ _ _
theorem frz4Z (w : World) (t : TypeId) (o : Nat) : (w.alloc (.cells #[.bool false, .int .i64 0, .int .i64 0, .int .i64 0] t)).frozen? ⟨w.heap.size, o, none⟩ = false := by simp [go_sem]
theorem alloc_ltC (w : World) (o : Obj) : w.heap.size < (w.alloc o).heap.size := by simp
theorem drew_cellC (w : World) (a : Addr) : w.drew.cell? a = w.cell? a := rfl
theorem drew_frozenC (w : World) (a : Addr) : w.drew.frozen? a = w.frozen? a := rfl
theorem drew_ltC {w : World} {n : Nat} (h : n < w.heap.size) : n < w.drew.heap.size := h
/-- What FirstFree gives, by name. -/
theorem frs_ex (bits : Int) (zs : List Sp) : ∃ (F : Pf) (B : Bool), frsV bits zs = .tuple #[.agg #[.bool F.s, .int .i64 F.H.toInt, .int .i64 F.L.toInt, .int .i64 F.b], .bool B] ∧ ((B = false ∧ zs = []) ∨ (B = true ∧ ∃ z r, zs = z :: r ∧ F = ⟨z.s, z.H, z.L, bits⟩)) := by
  cases zs with
  | nil => exact ⟨zPf, false, rfl, Or.inl ⟨rfl, rfl⟩⟩
  | cons z r => exact ⟨⟨z.s, z.H, z.L, bits⟩, true, rfl, Or.inr ⟨rfl, z, r, rfl, rfl⟩⟩

def StpC (p : Prop) : Prop := p
theorem stpC {p : Prop} (h : StpC p) : p := h

theorem OwnG.drewC {α : Type} {K : Kd α} {t : TypeId} {w : World} {B : Nat} {v : Value} {ps : List α} (h : OwnG K t w B v ps) : OwnG K t w.drew B v ps := OwnG.later h (Below.refl _ _).drew

theorem cmp_le {p q : Pf} (h : ¬ 0 < cmpP p q) (hn : p ≠ q) : cmpP p q < 0 := by
  by_cases h1 : cmpP p q < 0
  · exact h1
  · refine absurd (cmp_tot h1 fun h2 => ?_) hn
    unfold cmpP orI cmpW at h h1 h2
    simp only [bne_iff_ne] at h h1 h2
    repeat' split at h
    all_goals (repeat' split at h1)
    all_goals (repeat' split at h2)
    all_goals omega
def zBk : Bk := ⟨zPf, ⟨#[]⟩⟩
theorem mv_set (bs : List Bk) (x q : Bk) (m : Nat) (hq : bs[m]? = some q) : (bs.take (m + 1) ++ x :: bs.drop (m + 1)).set (m + 1) q = bs.take m ++ q :: bs.drop m := by
  obtain ⟨hm, e⟩ := List.getElem?_eq_some_iff.1 hq
  have hl : (bs.take (m + 1)).length = m + 1 := by rw [List.length_take]; omega
  rw [List.set_append_right _ _ (by omega), hl, Nat.sub_self, List.set_cons_zero, List.take_succ_eq_append_getElem hm, e, List.drop_eq_getElem_cons hm, e, List.append_assoc]
  rfl
theorem new_set (bs : List Bk) (x q : Bk) (m : Nat) (h : m ≤ bs.length) : (bs.take m ++ x :: bs.drop m).set m q = bs.take m ++ q :: bs.drop m := by
  have hl : (bs.take m).length = m := by rw [List.length_take]; omega
  rw [List.set_append_right _ _ (by omega), hl, Nat.sub_self, List.set_cons_zero]
theorem at_take (bs : List Bk) (x : Bk) (m : Nat) (h : m < bs.length) : (bs.take (m + 1) ++ x :: bs.drop (m + 1))[m]? = bs[m]? := by
  rw [List.getElem?_append_left (by rw [List.length_take]; omega), List.getElem?_take, if_pos (by omega)]
theorem len_mid (bs : List Bk) (x : Bk) (m : Nat) (h : m ≤ bs.length) : (bs.take m ++ x :: bs.drop m).length = bs.length + 1 := by
  rw [List.length_append, List.length_take, List.length_cons, List.length_drop]; omega
theorem grown_five' {w : World} {g a b c d e : Nat} {v0 v1 v2 v3 v4 : Value} : w.grownBy (((((w.setCell ⟨g, a, none⟩ v0).setCell ⟨g, b, none⟩ v1).setCell ⟨g, c, none⟩ v2).setCell ⟨g, d, none⟩ v3).setCell ⟨g, e, none⟩ v4) (some g) :=
  ((((grown_cellG _ _ _ _).trans (grown_cellG _ _ _ _)).trans (grown_cellG _ _ _ _)).trans (grown_cellG _ _ _ _)).trans (grown_cellG _ _ _ _)
theorem grown_ofC {w w' : World} (h : Below w.heap.size w w') (r : Option Nat) : w.grownBy w' r := ⟨h.os, h.tape, h.output, h.size, fun k hk _ => h.block k hk⟩

/-- A box: its cells, none frozen. -/
def BxK (w : World) (p : Nat) (vs : List Value) : Prop := (∀ i v, vs[i]? = some v → w.cell? ⟨p, i, none⟩ = some v) ∧ (∀ o, w.frozen? ⟨p, o, none⟩ = false) ∧ p < w.heap.size
theorem BxK.later {w w' : World} {p : Nat} {vs : List Value} (h : BxK w p vs) (hb : Below w.heap.size w w') : BxK w' p vs := ⟨fun i v hv => (hb.cell h.2.2).trans (h.1 i v hv), fun o => (hb.frozen h.2.2).trans (h.2.1 o), Nat.lt_of_lt_of_le h.2.2 hb.size⟩
theorem BxK.blk {w w' : World} {p : Nat} {vs : List Value} {r : Option Nat} (h : BxK w p vs) (hg : w.grownBy w' r) (hn : some p = r → False) : BxK w' p vs :=
  have e := hg.block p h.2.2 hn
  ⟨fun i v hv => (World.cell?_of_block e).trans (h.1 i v hv), fun o => (World.frozen?_of_block e).trans (h.2.1 o), Nat.lt_of_lt_of_le h.2.2 hg.size⟩
theorem BxK.set {w : World} {p x i : Nat} {u : Value} {vs : List Value} (h : BxK w p vs) (hn : p ≠ x) : BxK (w.setCell ⟨x, i, none⟩ u) p vs :=
  ⟨fun i v hv => cellC (h.1 i v hv) hn, fun o => frzC (h.2.1 o), by simpa using h.2.2⟩
theorem BxK.mk2 {w : World} {p : Nat} {a b : Value} (h0 : w.cell? ⟨p, 0, none⟩ = some a) (h1 : w.cell? ⟨p, 1, none⟩ = some b) (hf : ∀ o, w.frozen? ⟨p, o, none⟩ = false) (hl : p < w.heap.size) : BxK w p [a, b] :=
  ⟨fun i v hv => by rcases i with _ | _ | i <;> simp at hv <;> subst hv <;> assumption, hf, hl⟩
theorem BxK.mk4 {w : World} {p : Nat} {a b c d : Value} (h0 : w.cell? ⟨p, 0, none⟩ = some a) (h1 : w.cell? ⟨p, 1, none⟩ = some b) (h2 : w.cell? ⟨p, 2, none⟩ = some c) (h3 : w.cell? ⟨p, 3, none⟩ = some d) (hf : ∀ o, w.frozen? ⟨p, o, none⟩ = false) (hl : p < w.heap.size) : BxK w p [a, b, c, d] :=
  ⟨fun i v hv => by rcases i with _ | _ | _ | _ | i <;> simp at hv <;> subst hv <;> assumption, hf, hl⟩

end Go.Proofs.YtdbcdichmmcnbaaGreat
