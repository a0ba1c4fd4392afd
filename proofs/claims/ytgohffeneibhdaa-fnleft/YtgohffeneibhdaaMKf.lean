/-
  What is collapsed: each lies in one of them, no two overlap, and they collapse no more. Plain mathematics.
-/
import Derived.Test.YtgohffeneibhdaaKJoin
import Derived.Test.YtgohffeneibhdaaVColI
import Derived.Test.YtgohffeneibhdaaLCollapse
import Derived.Test.YtgohffeneibhdaaMIp
import Derived.Test.YtgohffeneibhdaaMPs
namespace Go.Proofs.Ytgohffeneibhdaa
open Go.RowKit

/-- Where a span ends, as a key. -/
def keyE (x : Sp) : Nat := keyP x + 2 ^ x.n
def Apt (J : List Sp) : Prop := J.Pairwise (fun s t => keyE t ≤ keyP s)
def Nos : List Sp → Prop
  | s :: t :: J => contB (t :: J) s = false ∧ Nos (t :: J)
  | _ => True
theorem keyE_lt (x : Sp) : keyP x < keyE x := by unfold keyE; have : 0 < 2 ^ x.n := Nat.pow_pos (by omega); omega
theorem Apt.ris {J : List Sp} (hk : ∀ t ∈ J, t.ok) (h : Apt J) : Ris J := ⟨hk, h.imp (fun {s t} hst => by have := keyE_lt t; omega)⟩
theorem apart_no {s t : Sp} (hs : s.ok) (ht : t.ok) (h : keyE t ≤ keyP s) : wB s t = false ∧ wB t s = false := by
  have h1 := keyE_lt t
  have hs0 : 0 < 2 ^ t.n := Nat.pow_pos (by omega)
  constructor
  · rw [Bool.eq_false_iff]
    intro hw
    obtain ⟨_, a2, a3, a4⟩ := (wB_num ht).1 hw
    unfold keyE at h
    rw [key_eq, key_eq, a2] at h
    omega
  · rw [Bool.eq_false_iff]
    intro hw
    obtain ⟨_, a2, a3, a4⟩ := (wB_num hs).1 hw
    unfold keyE at h
    rw [key_eq, key_eq, a2] at h
    omega
theorem cont_iff {t s : Sp} {J : List Sp} : contB (t :: J) s = true ↔ s.n < wd s.s ∧ t = sibS s := by
  unfold contB
  simp only [Bool.and_eq_true, decide_eq_true_eq, eqS_iff]
/-- The lower half, where the other one ends ahead of s. -/
theorem sib_low {s t : Sp} (hs : s.ok) (hn : s.n < wd s.s) (ht : t = sibS s) (hk : keyE t ≤ keyP s) : keyP (abvS s) = keyP t := by
  have hA := abv_ok hs hn
  have e := sib_n s
  have hts : t.s = s.s := by rw [ht]; exact e.2
  have h0 : 0 < 2 ^ s.n := Nat.pow_pos (by omega)
  have h9 : 0 < 2 ^ t.n := Nat.pow_pos (by omega)
  rcases sib_cases hs hn with ⟨a, b⟩ | ⟨a, b⟩
  · exfalso
    have h2 : t.adr = (abvS s).adr + 2 ^ s.n := by rw [ht, b, upp_num hA rfl]
    unfold keyE at hk
    rw [key_eq, key_eq, hts] at hk
    omega
  · rw [key_eq, key_eq, hts, ht, b, low_adr]; rfl
theorem push_inv : ∀ (J : List Sp) (s : Sp), (∀ t ∈ J, t.ok) → s.ok → Apt J → Nos J → (∀ t ∈ J, keyE t ≤ keyP s) → Apt (pushJ J s) ∧ Nos (pushJ J s)
  | [], _, _, _, _, _, _ => ⟨List.pairwise_singleton _ _, trivial⟩
  | t :: J, s, hJ, hs, hA, hN, hk => by
    cases hc : contB (t :: J) s
    · rw [push_stop hc]
      exact ⟨List.pairwise_cons.2 ⟨hk, hA⟩, hc, hN⟩
    · rw [push_on hc]
      obtain ⟨h1, h2⟩ := cont_iff.1 hc
      have hkA := sib_low hs h1 h2 (hk t (List.mem_cons_self ..))
      obtain ⟨a1, a2⟩ := List.pairwise_cons.1 hA
      refine push_inv J (abvS s) (fun u hu => hJ u (List.mem_cons_of_mem _ hu)) (abv_ok hs h1) a2 ?_ (fun u hu => by rw [hkA]; exact a1 u hu)
      cases J with
      | nil => trivial
      | cons u J => exact hN.2
theorem end_le {h : Sp} (hh : h.ok) : h.adr + 2 ^ h.n ≤ 340282366920938463463374607431768211456 := by
  have he := hh.2.2
  have h1 : h.adr = h.adr >>> h.n <<< h.n := by
    have := clr_adr h.n h.H h.L
    rw [he.1, he.2] at this
    exact this
  have hl := adr_lt9 h
  have hn : h.n ≤ 128 := hh.le
  rw [Nat.shiftRight_eq_div_pow, Nat.shiftLeft_eq] at h1
  have hd : (340282366920938463463374607431768211456 : Nat) = 2 ^ (128 - h.n) * 2 ^ h.n := by
    rw [← Nat.pow_add, show 128 - h.n + h.n = 128 by omega]
  have hq : h.adr / 2 ^ h.n < 2 ^ (128 - h.n) := by
    rw [Nat.div_lt_iff_lt_mul (Nat.pow_pos (by omega)), ← hd]; exact hl
  rw [hd, h1]
  have h2 : (h.adr / 2 ^ h.n + 1) * 2 ^ h.n ≤ 2 ^ (128 - h.n) * 2 ^ h.n := Nat.mul_le_mul_right _ hq
  rw [Nat.add_mul, Nat.one_mul] at h2
  exact h2
/-- The first sorts ahead of the second. -/
def Ahd (h x : Sp) : Prop := keyP h < keyP x ∨ (keyP h = keyP x ∧ x.n ≤ h.n)
theorem ahd_apart {h x : Sp} (hh : h.ok) (hx : x.ok) (ha : Ahd h x) (hw : wB x h = false) : keyE h ≤ keyP x := by
  rcases Nat.lt_or_ge (keyP x) (keyE h) with hlt | hge
  · exfalso
    have hle : keyP h ≤ keyP x := by rcases ha with h | h <;> omega
    have hs : h.s = x.s := by
      unfold keyE at hlt
      rw [key_eq, key_eq h] at hlt
      rw [key_eq, key_eq] at hle
      have a := adr_lt9 h; have b := adr_lt9 x
      have he : h.adr + 2 ^ h.n ≤ 340282366920938463463374607431768211456 := end_le hh
      cases h1 : h.s <;> cases h2 : x.s <;> simp [h1, h2] at hlt hle ⊢ <;> omega
    have ha1 : h.adr ≤ x.adr := (key_le hs).1 hle
    have ha2 : x.adr < h.adr + 2 ^ h.n := by
      unfold keyE at hlt
      rw [key_eq, key_eq, hs] at hlt
      omega
    have hz : wB (subN x 0) h = true := (wB_num hh).2 ⟨Nat.zero_le _, hs.symm, ha1, ha2⟩
    rcases wB_nest (subN_in hx (Nat.zero_le _)) hz with h3 | h3
    · rw [hw] at h3; cases h3
    · obtain ⟨b1, b2, b3, b4⟩ := (wB_num hx).1 h3
      have he : h.adr = x.adr := by omega
      have hk : keyP h = keyP x := by rw [key_eq, key_eq, hs, he]
      have hn : x.n ≤ h.n := by rcases ha with h | h <;> omega
      have : wB x h = true := (wB_num hh).2 ⟨hn, hs.symm, ha1, ha2⟩
      rw [hw] at this; cases this
  · exact hge
theorem fold_inv : ∀ (xs J : List Sp), (∀ x ∈ xs, x.ok) → Srd xs → (∀ t ∈ J, t.ok) → Apt J → Nos J → (∀ h T, J = h :: T → ∀ x ∈ xs, Ahd h x) → Apt (xs.foldl joinP J) ∧ Nos (xs.foldl joinP J)
  | [], _, _, _, _, hA, hN, _ => ⟨hA, hN⟩
  | x :: xs, J, hx, hs, hJ, hA, hN, hh => by
    have h0 := hx x (List.mem_cons_self ..)
    obtain ⟨hsx, hs'⟩ := List.pairwise_cons.1 hs
    have hx' : ∀ y ∈ xs, y.ok := fun y hy => hx y (List.mem_cons_of_mem _ hy)
    rw [List.foldl_cons]
    cases J with
    | nil =>
      refine fold_inv xs [x] hx' hs' (fun t ht => by rw [List.mem_singleton.1 ht]; exact h0) (List.pairwise_singleton _ _) trivial (fun h T e y hy => ?_)
      simp at e
      rw [← e.1]
      exact hsx y hy
    | cons h T =>
      have hhk := hJ h (List.mem_cons_self ..)
      cases hw : wB x h
      · have e1 : joinP (h :: T) x = pushJ (h :: T) x := by unfold joinP; simp only; rw [if_neg (by rw [hw]; simp)]
        rw [e1]
        have hap := ahd_apart hhk h0 (hh h T rfl x (List.mem_cons_self ..)) hw
        have hall : ∀ t ∈ h :: T, keyE t ≤ keyP x := fun t ht => by
          rcases List.mem_cons.1 ht with rfl | ht
          · exact hap
          · have h1 := (List.pairwise_cons.1 hA).1 t ht
            have h2 := keyE_lt h
            omega
        obtain ⟨p1, p2⟩ := push_inv (h :: T) x hJ h0 hA hN hall
        obtain ⟨h', T', q1, q2, q3, q4, q5, q6⟩ := push_end (h :: T) x (hA.ris hJ) h0 (fun t ht => by have := hall t ht; have := keyE_lt t; omega)
        refine fold_inv xs _ hx' hs' (push_okl (h :: T) x hJ h0).1 p1 p2 (fun g G e y hy => ?_)
        rw [q1] at e
        simp at e
        rw [← e.1]
        have hk : keyP h' ≤ keyP x := (key_le q3).2 q4
        have := hsx y hy
        unfold Ahd
        omega
      · have e1 : joinP (h :: T) x = h :: T := by unfold joinP; simp only; rw [if_pos hw]
        rw [e1]
        exact fold_inv xs _ hx' hs' hJ hA hN (fun g G e y hy => hh g G e y (List.mem_cons_of_mem _ hy))
theorem push_cov : ∀ (J : List Sp) (s : Sp), (∀ t ∈ J, t.ok) → s.ok → ∀ u ∈ s :: J, ∃ t ∈ pushJ J s, wB u t = true
  | [], s, _, hs, u, hu => ⟨s, List.mem_singleton.2 rfl, by rw [List.mem_singleton.1 hu]; exact wB_self hs⟩
  | t :: J, s, hJ, hs, u, hu => by
    cases hc : contB (t :: J) s
    · rw [push_stop hc]
      refine ⟨u, hu, wB_self ?_⟩
      rcases List.mem_cons.1 hu with h | h
      · exact h ▸ hs
      · exact hJ u h
    · rw [push_on hc]
      obtain ⟨h1, h2⟩ := cont_iff.1 hc
      have hJ' : ∀ v ∈ J, v.ok := fun v hv => hJ v (List.mem_cons_of_mem _ hv)
      have IH := push_cov J (abvS s) hJ' (abv_ok hs h1)
      obtain ⟨a, ha, hwa⟩ := IH (abvS s) (List.mem_cons_self ..)
      rcases List.mem_cons.1 hu with h | h
      · exact ⟨a, ha, wB_trans (h ▸ abv_in) hwa⟩
      · rcases List.mem_cons.1 h with h | h
        · have hin : wB u (abvS s) = true := by
            have : abvS u = abvS s := by rw [h, h2]; exact sib_abv hs h1
            rw [← this]; exact abv_in
          exact ⟨a, ha, wB_trans hin hwa⟩
        · exact IH u (List.mem_cons_of_mem _ h)
theorem fold_cov : ∀ (xs J : List Sp), (∀ x ∈ xs, x.ok) → (∀ t ∈ J, t.ok) → ∀ u, (u ∈ xs ∨ ∃ t ∈ J, wB u t = true) → ∃ t ∈ xs.foldl joinP J, wB u t = true
  | [], _, _, _, _, h => h.elim (fun h => by cases h) id
  | x :: xs, J, hx, hJ, u, hu => by
    have h0 := hx x (List.mem_cons_self ..)
    rw [List.foldl_cons]
    have hj := join_okl J x hJ h0
    refine fold_cov xs _ (fun y hy => hx y (List.mem_cons_of_mem _ hy)) hj.1 u ?_
    have key : ∀ v, v ∈ x :: J → ∃ t ∈ joinP J x, wB v t = true := by
      intro v hv
      cases J with
      | nil => exact push_cov [] x hJ h0 v hv
      | cons h T =>
        unfold joinP
        simp only
        split
        · rename_i hw
          rcases List.mem_cons.1 hv with e | e
          · exact ⟨h, List.mem_cons_self .., e ▸ hw⟩
          · exact ⟨v, e, wB_self (hJ v e)⟩
        · exact push_cov (h :: T) x hJ h0 v hv
    rcases hu with hu | ⟨t, ht, hw⟩
    · rcases List.mem_cons.1 hu with e | e
      · exact Or.inr (e ▸ key x (List.mem_cons_self ..))
      · exact Or.inl e
    · obtain ⟨b, hb, hwb⟩ := key t (List.mem_cons_of_mem _ ht)
      exact Or.inr ⟨b, hb, wB_trans hw hwb⟩
theorem fold_idem : ∀ J : List Sp, (∀ t ∈ J, t.ok) → Apt J → Nos J → J.reverse.foldl joinP [] = J
  | [], _, _, _ => rfl
  | s :: J, hJ, hA, hN => by
    have hs := hJ s (List.mem_cons_self ..)
    have hJ' : ∀ v ∈ J, v.ok := fun v hv => hJ v (List.mem_cons_of_mem _ hv)
    obtain ⟨a1, a2⟩ := List.pairwise_cons.1 hA
    have hN' : Nos J := by
      cases J with
      | nil => trivial
      | cons t J => exact hN.2
    rw [List.reverse_cons, List.foldl_append, fold_idem J hJ' a2 hN', List.foldl_cons, List.foldl_nil]
    cases J with
    | nil => rfl
    | cons t J =>
      unfold joinP
      simp only
      rw [if_neg (by rw [(apart_no hs (hJ' t (List.mem_cons_self ..)) (a1 t (List.mem_cons_self ..))).1]; simp)]
      exact push_stop hN.1
/-- All that the law asks. -/
theorem coll_all (xs ys : List Sp) (hx : ∀ x ∈ xs, x.ok) (hp : ys.Perm xs) (hs : Srd ys) :
    (∀ t ∈ collP ys, t.ok) ∧ (collP ys).Pairwise (fun t s => keyE t ≤ keyP s) ∧ (∀ x ∈ xs, ∃ t ∈ collP ys, wB x t = true) ∧ Srd (collP ys) ∧ collP (collP ys) = collP ys := by
  have hy : ∀ y ∈ ys, y.ok := fun y hym => hx y (hp.mem_iff.1 hym)
  obtain ⟨hA, hN⟩ := fold_inv ys [] hy hs (fun _ h => by cases h) List.Pairwise.nil trivial (fun _ _ h => by cases h)
  have hok := (fold_okl ys hy ys.length).1
  rw [List.take_length] at hok
  have hAp : (collP ys).Pairwise (fun t s => keyE t ≤ keyP s) := List.pairwise_reverse.2 hA
  refine ⟨fun t ht => hok t (List.mem_reverse.1 ht), hAp, fun x hxm => ?_, hAp.imp (fun {t s} h => Or.inl (by have := keyE_lt t; omega)), ?_⟩
  · obtain ⟨t, ht, hw⟩ := fold_cov ys [] hy (fun _ h => by cases h) x (Or.inl (hp.mem_iff.2 hxm))
    exact ⟨t, List.mem_reverse.2 ht, hw⟩
  · have h1 := fold_idem _ hok hA hN
    show (List.foldl joinP [] (collP ys)).reverse = collP ys
    have h2 : List.foldl joinP [] (collP ys) = ys.foldl joinP [] := h1
    rw [h2]; rfl

end Go.Proofs.Ytgohffeneibhdaa

namespace Go.Proofs.Ytgohffeneibhdaa
open Go.RowKit

theorem left_cov : ∀ (k : Nat) (x : Sp) (l : List Sp) (z : Sp), x.ok → x.n = k → z.ok → z.n = 0 → wB z x = true → (∃ t ∈ leftM k x l, wB z t = true) ∨ (∃ t ∈ l, wB z t = true ∧ (wB t x = true ∨ wB x t = true))
  | 0, x, l, z, _, _, _, _, hw => by
    unfold leftM
    by_cases h : l.any (wB x) = true
    · rw [if_pos h]
      obtain ⟨t, ht, hxt⟩ := List.any_eq_true.1 h
      exact Or.inr ⟨t, ht, wB_trans hw hxt, Or.inr hxt⟩
    · rw [if_neg h]
      exact Or.inl ⟨x, List.mem_singleton.2 rfl, hw⟩
  | k + 1, x, l, z, hx, hn, hz, hz0, hw => by
    unfold leftM
    by_cases h : l.any (wB x) = true
    · rw [if_pos h]
      obtain ⟨t, ht, hxt⟩ := List.any_eq_true.1 h
      exact Or.inr ⟨t, ht, wB_trans hw hxt, Or.inr hxt⟩
    · rw [if_neg h]
      by_cases h2 : l.filter (fun t => wB t x) = []
      · rw [if_pos h2]
        exact Or.inl ⟨x, List.mem_singleton.2 rfl, hw⟩
      · rw [if_neg h2]
        have near : ∀ t ∈ l.filter (fun t => wB t x), t ∈ l ∧ wB t x = true := fun t ht => List.mem_filter.1 ht
        rcases half_in hx hn hz hw (by omega) with ⟨h3, _⟩ | ⟨h3, _⟩
        · rcases left_cov k (lowS x k) _ z (low_ok hx hn) rfl hz hz0 h3 with ⟨t, ht, hwt⟩ | ⟨t, ht, hwt, _⟩
          · exact Or.inl ⟨t, List.mem_append.2 (Or.inl ht), hwt⟩
          · exact Or.inr ⟨t, (near t ht).1, hwt, Or.inl (near t ht).2⟩
        · rcases left_cov k (uppS x k) _ z (upp_ok hx hn) rfl hz hz0 h3 with ⟨t, ht, hwt⟩ | ⟨t, ht, hwt, _⟩
          · exact Or.inl ⟨t, List.mem_append.2 (Or.inr ht), hwt⟩
          · exact Or.inr ⟨t, (near t ht).1, hwt, Or.inl (near t ht).2⟩
theorem Nos.tail : ∀ (P Q : List Sp), Nos (P ++ Q) → Nos Q
  | [], _, h => h
  | [_], [], _ => trivial
  | [_], _ :: _, h => h.2
  | _ :: p' :: P, Q, h => Nos.tail (p' :: P) Q h.2
theorem min_n : ∀ J : List Sp, J ≠ [] → ∃ t ∈ J, ∀ u ∈ J, t.n ≤ u.n
  | [], h => absurd rfl h
  | [x], _ => ⟨x, List.mem_singleton.2 rfl, fun u hu => by rw [List.mem_singleton.1 hu]; exact Nat.le_refl _⟩
  | x :: y :: J, _ => by
    obtain ⟨t, ht, hm⟩ := min_n (y :: J) (by simp)
    by_cases h : x.n ≤ t.n
    · refine ⟨x, List.mem_cons_self .., fun u hu => ?_⟩
      rcases List.mem_cons.1 hu with e | e
      · rw [e]; exact Nat.le_refl _
      · have := hm u e; omega
    · refine ⟨t, List.mem_cons_of_mem _ ht, fun u hu => ?_⟩
      rcases List.mem_cons.1 hu with e | e
      · rw [e]; omega
      · exact hm u e
/-- Two of a row that touch are neighbours. -/
theorem apt_next : ∀ (J : List Sp) (a b : Sp), Apt J → a ∈ J → b ∈ J → keyE a = keyP b → ∃ P Q, J = P ++ b :: a :: Q
  | [], _, _, _, h, _, _ => by cases h
  | c :: J, a, b, hA, ha, hb, he => by
    obtain ⟨h1, h2⟩ := List.pairwise_cons.1 hA
    rcases List.mem_cons.1 hb with hbc | hbJ
    · subst hbc
      have haJ : a ∈ J := by
        rcases List.mem_cons.1 ha with e | e
        · exfalso; rw [e] at he; have := keyE_lt b; omega
        · exact e
      cases J with
      | nil => cases haJ
      | cons d J =>
        rcases List.mem_cons.1 haJ with e | e
        · exact ⟨[], J, by rw [e]; rfl⟩
        · exfalso
          have p1 := h1 d (List.mem_cons_self ..)
          have p2 := (List.pairwise_cons.1 h2).1 a e
          have p3 := keyE_lt d
          omega
    · rcases List.mem_cons.1 ha with hac | haJ
      · exfalso
        have p1 := h1 b hbJ
        have p2 := keyE_lt b
        have p3 := keyE_lt c
        rw [hac] at he
        omega
      · obtain ⟨P, Q, e⟩ := apt_next J a b h2 haJ hbJ he
        exact ⟨c :: P, Q, by rw [e]; rfl⟩
theorem apt_over : ∀ (J : List Sp), (∀ t ∈ J, t.ok) → Apt J → ∀ a ∈ J, ∀ b ∈ J, wB a b = true → a = b
  | [], _, _, _, h, _, _, _ => by cases h
  | c :: J, hJ, hA, a, ha, b, hb, hw => by
    obtain ⟨h1, h2⟩ := List.pairwise_cons.1 hA
    have hJ' : ∀ t ∈ J, t.ok := fun t ht => hJ t (List.mem_cons_of_mem _ ht)
    rcases List.mem_cons.1 ha with e1 | e1
    · rcases List.mem_cons.1 hb with e2 | e2
      · rw [e1, e2]
      · exfalso
        have := (apart_no (hJ c (List.mem_cons_self ..)) (hJ' b e2) (h1 b e2)).1
        rw [e1, this] at hw; cases hw
    · rcases List.mem_cons.1 hb with e2 | e2
      · exfalso
        have := (apart_no (hJ c (List.mem_cons_self ..)) (hJ' a e1) (h1 a e1)).2
        rw [e2, this] at hw; cases hw
      · exact apt_over J hJ' h2 a e1 b e2 hw
theorem abv_le {t x : Sp} (h : wB t x = true) (hn : t.n < x.n) : wB (abvS t) x = true := by
  rcases wB_nest (z := t) abv_in h with h1 | h1
  · exact h1
  · obtain ⟨a1, a2, a3, a4⟩ := (wB_iff _ _).1 h1
    obtain ⟨b1, b2, b3, b4⟩ := (wB_iff _ _).1 h
    have e : x.n = t.n + 1 := by have : x.n ≤ t.n + 1 := a1; omega
    refine (wB_iff _ _).2 ⟨by show t.n + 1 ≤ x.n; omega, b2, ?_, ?_⟩
    · show cH x.n (cH (t.n + 1) t.H) = x.H; rw [e, cH_idem, ← e]; exact b3
    · show cL x.n (cL (t.n + 1) t.L) = x.L; rw [e, cL_idem, ← e]; exact b4
theorem cover_one (x : Sp) (hx : x.ok) (J : List Sp) (hJ : ∀ t ∈ J, t.ok) (hA : Apt J) (hN : Nos J) (hin : ∀ t ∈ J, wB t x = true) (hc : ∀ z : Sp, z.ok → z.n = 0 → wB z x = true → ∃ t ∈ J, wB z t = true) : J = [x] := by
  have hne : J ≠ [] := by
    intro h
    obtain ⟨t, ht, _⟩ := hc (subN x 0) (subN_ok hx (Nat.zero_le _)) rfl (subN_in hx (Nat.zero_le _))
    rw [h] at ht; cases ht
  obtain ⟨t, ht, hm⟩ := min_n J hne
  have htk := hJ t ht
  have hti := hin t ht
  obtain ⟨t1, t2, t3, t4⟩ := (wB_iff _ _).1 hti
  have hfull : t.n = x.n := by
    rcases Nat.lt_or_ge t.n x.n with hlt | hge
    · exfalso
      have hw : t.n < wd t.s := by have := hx.2.1; rw [t2]; omega
      have hs := sib_n t
      have hsk := sib_ok htk hw
      have hsa : abvS (sibS t) = abvS t := sib_abv htk hw
      have hsx : wB (sibS t) x = true := wB_trans (b := abvS t) (by rw [← hsa]; exact abv_in) (abv_le hti hlt)
      obtain ⟨u, hu, hzu⟩ := hc (subN (sibS t) 0) (subN_ok hsk (Nat.zero_le _)) rfl (wB_trans (subN_in hsk (Nat.zero_le _)) hsx)
      have hmu := hm u hu
      have huk := hJ u hu
      have hus : u = sibS t := by
        rcases wB_nest hzu (subN_in hsk (Nat.zero_le _)) with h1 | h1
        · obtain ⟨a1, a2, a3, a4⟩ := (wB_iff _ _).1 h1
          have en : u.n = (sibS t).n := by rw [hs.1] at a1 ⊢; omega
          exact Sp.ext' a2 (by rw [← a3, ← en]; exact huk.2.2.1.symm) (by rw [← a4, ← en]; exact huk.2.2.2.symm) en
        · by_cases en : u.n = (sibS t).n
          · obtain ⟨a1, a2, a3, a4⟩ := (wB_iff _ _).1 h1
            exact Sp.ext' a2.symm (by rw [← a3, en]; exact hsk.2.2.1) (by rw [← a4, en]; exact hsk.2.2.2) en
          · exfalso
            have h2 : wB (abvS (sibS t)) u = true := abv_le h1 (by have := ((wB_iff _ _).1 h1).1; omega)
            rw [hsa] at h2
            have h3 := apt_over J hJ hA t ht u hu (wB_trans abv_in h2)
            rw [← h3] at en
            exact en hs.1.symm
      rw [hus] at hu
      have hp0 : 0 < 2 ^ t.n := Nat.pow_pos (by omega)
      have hAk := abv_ok htk hw
      rcases sib_cases htk hw with ⟨a, b⟩ | ⟨a, b⟩
      · -- t is the lower half
        have he : keyE t = keyP (sibS t) := by
          unfold keyE
          rw [key_eq, key_eq, hs.2, b, upp_num hAk rfl]; omega
        obtain ⟨P, Q, e⟩ := apt_next J t (sibS t) hA ht hu he
        rw [e] at hN
        have h5 := (Nos.tail P _ hN).1
        have h6 : contB (t :: Q) (sibS t) = true := cont_iff.2 ⟨by rw [hs.1, hs.2]; exact hw, (sib_sib htk hw).symm⟩
        rw [h5] at h6; cases h6
      · have he : keyE (sibS t) = keyP t := by
          unfold keyE
          rw [key_eq, key_eq, hs.2, hs.1, b, low_adr]; omega
        obtain ⟨P, Q, e⟩ := apt_next J (sibS t) t hA hu ht he
        rw [e] at hN
        have h5 := (Nos.tail P _ hN).1
        have h6 : contB (sibS t :: Q) t = true := cont_iff.2 ⟨hw, rfl⟩
        rw [h5] at h6; cases h6
    · omega
  have htx : t = x := Sp.ext' t2 (by rw [← t3, ← hfull]; exact htk.2.2.1.symm) (by rw [← t4, ← hfull]; exact htk.2.2.2.symm) hfull
  subst htx
  -- all others lie in t, which is one of them
  have hall : ∀ u ∈ J, u = t := fun u hu => apt_over J hJ hA u hu t ht (hin u hu)
  cases J with
  | nil => cases ht
  | cons c J =>
    have e1 := hall c (List.mem_cons_self ..)
    cases J with
    | nil => rw [e1]
    | cons d J =>
      exfalso
      have e2 := hall d (List.mem_cons_of_mem _ (List.mem_cons_self ..))
      have p1 := (List.pairwise_cons.1 hA).1 d (List.mem_cons_self ..)
      have p2 := keyE_lt d
      rw [e1, ← e2] at p1
      omega
theorem push_into : ∀ (J : List Sp) (s x : Sp), x.ok → (∀ t ∈ J, t.ok) → s.ok → (∀ t ∈ J, wB t x = true) → wB s x = true → ∀ t ∈ pushJ J s, wB t x = true
  | [], s, _, _, _, _, _, hw, t, ht => by rw [List.mem_singleton.1 ht]; exact hw
  | c :: J, s, x, hx, hJ, hs, hJw, hw, t, ht => by
    cases hc : contB (c :: J) s
    · rw [push_stop hc] at ht
      rcases List.mem_cons.1 ht with e | e
      · rw [e]; exact hw
      · exact hJw t e
    · rw [push_on hc] at ht
      obtain ⟨h1, h2⟩ := cont_iff.1 hc
      have hlt : s.n < x.n := by
        rcases Nat.lt_or_ge s.n x.n with h | h
        · exact h
        · exfalso
          obtain ⟨a1, a2, a3, a4⟩ := (wB_iff _ _).1 hw
          have en : s.n = x.n := by omega
          have e1 : s = x := Sp.ext' a2 (by rw [← a3, ← en]; exact hs.2.2.1.symm) (by rw [← a4, ← en]; exact hs.2.2.2.symm) en
          have hcw := hJw c (List.mem_cons_self ..)
          rw [h2] at hcw
          obtain ⟨b1, b2, b3, b4⟩ := (wB_iff _ _).1 hcw
          have hsk := sib_ok hs h1
          have hsn := sib_n s
          have e2 : sibS s = x := Sp.ext' b2 (by rw [← b3, ← en, ← hsn.1]; exact hsk.2.2.1.symm) (by rw [← b4, ← en, ← hsn.1]; exact hsk.2.2.2.symm) (hsn.1.trans en)
          have hp0 : 0 < 2 ^ s.n := Nat.pow_pos (by omega)
          have hAk := abv_ok hs h1
          rcases sib_cases hs h1 with ⟨a, b⟩ | ⟨a, b⟩
          · have := congrArg Sp.adr (e2.trans e1.symm)
            rw [b, upp_num hAk rfl] at this; omega
          · have := congrArg Sp.adr (e2.trans e1.symm)
            rw [b, low_adr] at this; omega
      exact push_into J (abvS s) x hx (fun u hu => hJ u (List.mem_cons_of_mem _ hu)) (abv_ok hs h1) (fun u hu => hJw u (List.mem_cons_of_mem _ hu)) (abv_le hw hlt) t ht
theorem fold_into : ∀ (xs J : List Sp) (x : Sp), x.ok → (∀ t ∈ xs, t.ok) → (∀ t ∈ J, t.ok) → (∀ t ∈ J, wB t x = true) → (∀ t ∈ xs, wB t x = true) → ∀ t ∈ xs.foldl joinP J, wB t x = true
  | [], _, _, _, _, _, hJ, _, t, ht => hJ t ht
  | y :: xs, J, x, hx, hxs, hJk, hJ, hxw, t, ht => by
    have h0 := hxs y (List.mem_cons_self ..)
    rw [List.foldl_cons] at ht
    refine fold_into xs (joinP J y) x hx (fun u hu => hxs u (List.mem_cons_of_mem _ hu)) (join_okl J y hJk h0).1 ?_ (fun u hu => hxw u (List.mem_cons_of_mem _ hu)) t ht
    intro u hu
    cases J with
    | nil => exact push_into [] y x hx hJk h0 hJ (hxw y (List.mem_cons_self ..)) u hu
    | cons h T =>
      unfold joinP at hu
      simp only at hu
      split at hu
      · exact hJ u hu
      · exact push_into (h :: T) y x hx hJk h0 hJ (hxw y (List.mem_cons_self ..)) u hu
/-- Spans in x that have each of its addresses collapse to it. -/
theorem coll_cover (x : Sp) (hx : x.ok) (A ys : List Sp) (hA : ∀ t ∈ A, t.ok) (hp : ys.Perm A) (hs : Srd ys) (hin : ∀ t ∈ A, wB t x = true) (hc : ∀ z : Sp, z.ok → z.n = 0 → wB z x = true → ∃ t ∈ A, wB z t = true) : collP ys = [x] := by
  have hy : ∀ y ∈ ys, y.ok := fun y hym => hA y (hp.mem_iff.1 hym)
  obtain ⟨hAp, hN⟩ := fold_inv ys [] hy hs (fun _ h => by cases h) List.Pairwise.nil trivial (fun _ _ h => by cases h)
  have hok := (fold_okl ys hy ys.length).1
  rw [List.take_length] at hok
  have hinto := fold_into ys [] x hx hy (fun _ h => by cases h) (fun _ h => by cases h) (fun t ht => hin t (hp.mem_iff.1 ht))
  have := cover_one x hx (ys.foldl joinP []) hok hAp hN hinto (fun z hz hz0 hzx => by
    obtain ⟨t, ht, hzt⟩ := hc z hz hz0 hzx
    obtain ⟨u, hu, htu⟩ := fold_cov ys [] hy (fun _ h => by cases h) t (Or.inl (hp.mem_iff.2 ht))
    exact ⟨u, hu, wB_trans hzt htu⟩)
  unfold collP
  rw [this]; rfl

end Go.Proofs.Ytgohffeneibhdaa

namespace Go.Proofs.Ytgohffeneibhdaa
open Go.RowKit

/-- What one that was taken adds. -/
def addP (p y : Pf) : List Pf := (if winF y p = true then [y] else []) ++ (if winF p y = true then [p] else [])
structure FlP (p : Pf) (ps R : List Pf) : Prop where
  len : R.length ≤ 100000
  imp : ∀ (a : Option Addr) (n c : Nat) (w : World), n = ps.length → Row w a ps → Calls Try.prog 14 #[.agg #[.bool p.s, .int .i64 p.H.toInt, .int .i64 p.L.toInt, .int .i64 p.b], .slice a n c] w fun e w' => ∃ a' c', e = .returned (.slice a' R.length c') ∧ OwnR 31 w' w.heap.size (.slice a' R.length c') R ∧ Below w.heap.size w w'
  spc : ∀ (a : Option Addr) (n c : Nat) (w : World), n = ps.length → Row w a ps → Calls Try.prog 15 #[.agg #[.bool p.s, .int .i64 p.H.toInt, .int .i64 p.L.toInt, .int .i64 p.b], .slice a n c] w fun e w' => ∃ a' c', e = .returned (.slice a' R.length c') ∧ OwnR 31 w' w.heap.size (.slice a' R.length c') R ∧ Below w.heap.size w w'
  bad : ∀ q ∈ ps, q.pok = false → R = []
  wrong : p.pok = false → R = []
  ov : ∀ x ∈ R, (∀ y ∈ ps, (winF x y || winF y x) = false) ∧ winF x p = true
  one : (∀ q ∈ ps, q.pok = true) → p.pok = true → (R ++ ps.flatMap (addP p)).length ≤ 300 →
    (∀ (a : Option Addr) (n c : Nat) (w : World), n = (R ++ ps.flatMap (addP p)).length → Row w a (R ++ ps.flatMap (addP p)) → Calls Try.prog 8 #[.slice a n c] w fun e w' => ∃ a' c', e = .returned (.slice a' 1 c') ∧ OwnR 31 w' w.heap.size (.slice a' 1 c') [p] ∧ Below w.heap.size w w') ∧
    (∀ (a : Option Addr) (n c : Nat) (w : World), n = (R ++ ps.flatMap (addP p)).length → Row w a (R ++ ps.flatMap (addP p)) → Calls Try.prog 9 #[.slice a n c] w fun e w' => ∃ a' c', e = .returned (.slice a' 1 c') ∧ OwnR 31 w' w.heap.size (.slice a' 1 c') [p] ∧ Below w.heap.size w w')
def addS (x t : Sp) : List Sp := (if wB t x = true then [t] else []) ++ (if wB x t = true then [x] else [])
theorem add_pre {x t : Sp} (hx : x.ok) (ht : t.ok) : addP x.pre t.pre = (addS x t).map Sp.pre := by
  have h1 : winF t.pre x.pre = wB t x := win_wB ht hx
  have h2 : winF x.pre t.pre = wB x t := win_wB hx ht
  unfold addP addS
  rw [h1, h2]
  cases wB t x <;> cases wB x t <;> rfl
theorem flat_pre {x : Sp} (hx : x.ok) : ∀ xs : List Sp, (∀ t ∈ xs, t.ok) → (xs.map Sp.pre).flatMap (addP x.pre) = (xs.flatMap (addS x)).map Sp.pre
  | [], _ => rfl
  | t :: xs, h => by
    rw [List.map_cons, List.flatMap_cons, List.flatMap_cons, List.map_append, add_pre hx (h t (List.mem_cons_self ..)), flat_pre hx xs (fun u hu => h u (List.mem_cons_of_mem _ hu))]
theorem addS_mem {x t u : Sp} (h : u ∈ addS x t) : (u = t ∧ wB t x = true) ∨ (u = x ∧ wB x t = true) := by
  unfold addS at h
  rcases List.mem_append.1 h with h | h
  · split at h
    · rename_i hw; exact Or.inl ⟨List.mem_singleton.1 h, hw⟩
    · cases h
  · split at h
    · rename_i hw; exact Or.inr ⟨List.mem_singleton.1 h, hw⟩
    · cases h
theorem addP_len (p : Pf) : ∀ ps : List Pf, (ps.flatMap (addP p)).length ≤ 2 * ps.length
  | [] => by simp
  | y :: ps => by
    rw [List.flatMap_cons, List.length_append, List.length_cons]
    have h1 := addP_len p ps
    have h2 : (addP p y).length ≤ 2 := by unfold addP; split <;> split <;> simp
    omega
theorem fl_of (p : Pf) (ps : List Pf) (hl : ps.length ≤ 300) : ∃ R, FlP p ps R := by
  cases hr : (p.pok && rightP ps)
  · refine ⟨[], ⟨by simp, fun a n c w hn hB => ?_, fun a n c w hn hB => ?_, fun _ _ _ => rfl, fun _ => rfl, (fun _ h => by cases h), fun h1 h2 => ?_⟩⟩
    · subst hn; exact iWithout_no p a c ps w hB (by omega) hr
    · subst hn; exact sWithout_no p a c ps w hB (by omega) hr
    · exfalso
      have h3 : ps.all Pf.pok = true := List.all_eq_true.2 h1
      unfold rightP at hr
      rw [h2, h3, decide_eq_true hl] at hr
      cases hr
  · rw [Bool.and_eq_true] at hr
    obtain ⟨x, hx, rfl⟩ := Sp.of_pok (p := p) hr.1
    have h2 := hr.2
    unfold rightP at h2
    rw [Bool.and_eq_true] at h2
    obtain ⟨xs, hxs, rfl⟩ := pre_list ps h2.1
    have hl3 : xs.length ≤ 300 := by rw [List.length_map] at hl; exact hl
    have hll := left_le hx xs hl3
    have hpart := left_part x.n x xs hx rfl
    refine ⟨(leftM x.n x xs).map Sp.pre, ⟨by rw [List.length_map]; omega, fun a n c w hn hB => ?_, fun a n c w hn hB => ?_, fun q hq hb => ?_, fun hb => ?_, fun u hu => ?_, fun _ _ h300 => ?_⟩⟩
    · rw [List.length_map] at hn ⊢
      subst hn; exact iWithout_yes x hx a c xs hxs w hB hl3
    · rw [List.length_map] at hn ⊢
      subst hn; exact sWithout_yes x hx a c xs hxs w hB hl3
    · exfalso
      have := List.all_eq_true.1 h2.1 q hq
      rw [hb] at this; cases this
    · exfalso
      have h9 := hr.1
      rw [hb] at h9; cases h9
    · obtain ⟨z, hz, rfl⟩ := List.mem_map.1 hu
      obtain ⟨z1, z2, z3⟩ := hpart z hz
      refine ⟨fun y hy => ?_, (win_wB z1 hx).trans z2⟩
      obtain ⟨t, ht, rfl⟩ := List.mem_map.1 hy
      have e1 : winF z.pre t.pre = wB z t := win_wB z1 (hxs t ht)
      have e2 : winF t.pre z.pre = wB t z := win_wB (hxs t ht) z1
      rw [e1, e2, (z3 t ht).1, (z3 t ht).2]; rfl
    · have hfl := flat_pre hx xs hxs
      rw [hfl, ← List.map_append] at h300 ⊢
      have hA : ∀ t ∈ leftM x.n x xs ++ xs.flatMap (addS x), t.ok ∧ wB t x = true := fun t ht => by
        rcases List.mem_append.1 ht with h | h
        · exact ⟨(hpart t h).1, (hpart t h).2.1⟩
        · obtain ⟨v, hv, hm⟩ := List.mem_flatMap.1 h
          rcases addS_mem hm with ⟨rfl, hw⟩ | ⟨rfl, hw⟩
          · exact ⟨hxs t hv, hw⟩
          · exact ⟨hx, wB_self hx⟩
      rw [List.length_map] at h300
      obtain ⟨ys, hp, hs, cS, cI⟩ := coll_both (leftM x.n x xs ++ xs.flatMap (addS x)) (fun t ht => (hA t ht).1) h300
      have hone : collP ys = [x] := coll_cover x hx _ ys (fun t ht => (hA t ht).1) hp hs (fun t ht => (hA t ht).2) (fun z hz hz0 hzx => by
        rcases left_cov x.n x xs z hx rfl hz hz0 hzx with ⟨t, ht, hw⟩ | ⟨t, ht, hw, hc⟩
        · exact ⟨t, List.mem_append.2 (Or.inl ht), hw⟩
        · rcases hc with hc | hc
          · refine ⟨t, List.mem_append.2 (Or.inr (List.mem_flatMap.2 ⟨t, ht, ?_⟩)), hw⟩
            unfold addS; rw [if_pos hc]; simp
          · refine ⟨x, List.mem_append.2 (Or.inr (List.mem_flatMap.2 ⟨t, ht, ?_⟩)), hzx⟩
            unfold addS; rw [if_pos hc]; simp)
      rw [hone] at cS cI
      refine ⟨fun a n c w hn hB => ?_, fun a n c w hn hB => ?_⟩
      · rw [List.length_map] at hn
        exact cI a n c w hn hB
      · rw [List.length_map] at hn
        exact cS a n c w hn hB

end Go.Proofs.Ytgohffeneibhdaa
