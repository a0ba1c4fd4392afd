/-
  Spans put together: a stack of spans that rise, onto which one more is pushed; the program's way and the specification's are one. Plain mathematics.
-/
import Derived.Test.YtgohffeneibhdaaMQK
import Derived.Test.YtgohffeneibhdaaBSpS
import Derived.Test.YtgohffeneibhdaaMOrd
namespace Go.Proofs.Ytgohffeneibhdaa
open Go.RowKit

theorem Sp.ext' {x y : Sp} (h1 : x.s = y.s) (h2 : x.H = y.H) (h3 : x.L = y.L) (h4 : x.n = y.n) : x = y := by
  cases x; cases y; simp at h1 h2 h3 h4; subst h1 h2 h3 h4; rfl
theorem Sp.ext_adr {x y : Sp} (h1 : x.s = y.s) (h2 : x.adr = y.adr) (h4 : x.n = y.n) : x = y := Sp.ext' h1 (adrN_inj h2).1 (adrN_inj h2).2 h4
/-- What is above a span; the other half of it. -/
def abvS (x : Sp) : Sp := ⟨x.s, cH (x.n + 1) x.H, cL (x.n + 1) x.L, x.n + 1⟩
def sibS (x : Sp) : Sp := if lowB x.H x.L x.n = true then uppS (abvS x) x.n else lowS (abvS x) x.n
def eqS (x y : Sp) : Bool := (x.s == y.s && (x.H == y.H && x.L == y.L)) && x.n == y.n
theorem eqS_iff (x y : Sp) : eqS x y = true ↔ x = y := by
  unfold eqS
  simp only [Bool.and_eq_true, beq_iff_eq]
  constructor
  · rintro ⟨⟨h1, h2, h3⟩, h4⟩; exact Sp.ext' h1 h2 h3 h4
  · rintro rfl; exact ⟨⟨rfl, rfl, rfl⟩, rfl⟩
theorem abv_ok {x : Sp} (hx : x.ok) (hn : x.n < wd x.s) : (abvS x).ok :=
  ⟨okB_clr x.s _ _ _ hx.1, hn, cH_idem _ _, cL_idem _ _⟩
theorem abv_in {x : Sp} : wB x (abvS x) = true := (wB_iff _ _).2 ⟨Nat.le_succ _, rfl, rfl, rfl⟩
theorem low_iff {x : Sp} : lowB x.H x.L x.n = true ↔ x.adr = (abvS x).adr := by
  unfold lowB
  rw [Bool.and_eq_true, beq_iff_eq, beq_iff_eq]
  constructor
  · rintro ⟨h1, h2⟩; unfold Sp.adr abvS; rw [← h1, ← h2]
  · intro h; exact ⟨(adrN_inj h).1, (adrN_inj h).2⟩
theorem low_adr (y : Sp) (k : Nat) : (lowS y k).adr = y.adr := rfl
theorem abv_half {x : Sp} (hx : x.ok) (hn : x.n < wd x.s) : x = lowS (abvS x) x.n ∨ x = uppS (abvS x) x.n := by
  have hA := abv_ok hx hn
  have hl := low_ok (k := x.n) hA rfl
  have hu := upp_ok (k := x.n) hA rfl
  rcases half_in (k := x.n) hA rfl hx abv_in (Nat.le_refl _) with ⟨h, _⟩ | ⟨h, _⟩
  · left
    obtain ⟨_, _, e, f⟩ := (wB_iff _ _).1 h
    exact Sp.ext' rfl (by rw [← e]; exact hx.2.2.1.symm) (by rw [← f]; exact hx.2.2.2.symm) rfl
  · right
    obtain ⟨_, _, e, f⟩ := (wB_iff _ _).1 h
    exact Sp.ext' rfl (by rw [← e]; exact hx.2.2.1.symm) (by rw [← f]; exact hx.2.2.2.symm) rfl
theorem sib_cases {x : Sp} (hx : x.ok) (hn : x.n < wd x.s) : (x.adr = (abvS x).adr ∧ sibS x = uppS (abvS x) x.n) ∨ (x.adr = (abvS x).adr + 2 ^ x.n ∧ sibS x = lowS (abvS x) x.n) := by
  have hA := abv_ok hx hn
  have hp : 0 < 2 ^ x.n := Nat.pow_pos (by omega)
  rcases abv_half hx hn with h | h
  · left
    have e : x.adr = (abvS x).adr := (congrArg Sp.adr h).trans (low_adr _ _)
    exact ⟨e, by unfold sibS; rw [if_pos (low_iff.2 e)]⟩
  · right
    have e : x.adr = (abvS x).adr + 2 ^ x.n := by
      have := congrArg Sp.adr h
      rw [upp_num hA rfl] at this
      exact this
    refine ⟨e, ?_⟩
    unfold sibS
    rw [if_neg]
    intro hc
    have := low_iff.1 hc
    omega
theorem sib_n (x : Sp) : (sibS x).n = x.n ∧ (sibS x).s = x.s := by
  unfold sibS; split <;> exact ⟨rfl, rfl⟩
theorem sib_ok {x : Sp} (hx : x.ok) (hn : x.n < wd x.s) : (sibS x).ok := by
  have hA := abv_ok hx hn
  rcases sib_cases hx hn with ⟨_, h⟩ | ⟨_, h⟩ <;> rw [h]
  · exact upp_ok hA rfl
  · exact low_ok hA rfl
theorem abv_uniq {x y : Sp} (hn : y.n = x.n) (hw : wB y (abvS x) = true) : abvS y = abvS x := by
  obtain ⟨_, h2, h3, h4⟩ := (wB_iff _ _).1 hw
  exact Sp.ext' h2 (by show cH (y.n + 1) y.H = _; rw [hn]; exact h3) (by show cL (y.n + 1) y.L = _; rw [hn]; exact h4) (by show y.n + 1 = x.n + 1; rw [hn])
theorem sib_abv {x : Sp} (hx : x.ok) (hn : x.n < wd x.s) : abvS (sibS x) = abvS x := by
  have hA := abv_ok hx hn
  refine abv_uniq (sib_n x).1 ?_
  rcases sib_cases hx hn with ⟨_, h⟩ | ⟨_, h⟩ <;> rw [h]
  · have hp : (2 : Nat) ^ (x.n + 1) = 2 ^ x.n + 2 ^ x.n := by rw [Nat.pow_succ]; omega
    have h0 : 0 < 2 ^ x.n := Nat.pow_pos (by omega)
    refine (wB_num hA).2 ⟨Nat.le_succ _, rfl, ?_, ?_⟩
    · rw [upp_num hA rfl]; omega
    · rw [upp_num hA rfl]; show _ < _ + 2 ^ (x.n + 1); omega
  · exact (wB_iff _ _).2 ⟨Nat.le_succ _, rfl, cH_idem _ _, cL_idem _ _⟩
theorem sib_sib {x : Sp} (hx : x.ok) (hn : x.n < wd x.s) : sibS (sibS x) = x := by
  have hA := abv_ok hx hn
  have hp : 0 < 2 ^ x.n := Nat.pow_pos (by omega)
  have ha := sib_abv hx hn
  have hs := sib_n x
  have h2 := sib_cases (sib_ok hx hn) (by rw [hs.1, hs.2]; exact hn)
  rw [ha, hs.1] at h2
  rcases sib_cases hx hn with ⟨e, h⟩ | ⟨e, h⟩
  · rcases h2 with ⟨e2, h3⟩ | ⟨e2, h3⟩
    · rw [h, upp_num hA rfl] at e2; omega
    · rw [h3]; exact (Sp.ext_adr (x := x) (y := lowS (abvS x) x.n) rfl (e.trans (low_adr _ _).symm) rfl).symm
  · rcases h2 with ⟨e2, h3⟩ | ⟨e2, h3⟩
    · rw [h3]; exact (Sp.ext_adr (x := x) (y := uppS (abvS x) x.n) rfl (e.trans (upp_num (k := x.n) hA rfl).symm) rfl).symm
    · rw [h, low_adr] at e2; omega

/-- The program's push: a stack, the last one first. -/
def pushJ : List Sp → Sp → List Sp
  | [], s => [s]
  | t :: J, s => if decide (s.n < wd s.s) && eqS t (sibS s) then pushJ J (abvS s) else s :: t :: J
/-- The specification's. -/
def pushK : List Sp → Sp → List Sp
  | [], s => [s]
  | t :: J, s => if decide (t.n < wd t.s) && eqS (sibS t) s then pushK J (abvS t) else s :: t :: J
theorem push_one : ∀ (J : List Sp) (s : Sp), (∀ t ∈ J, t.ok) → s.ok → pushJ J s = pushK J s
  | [], _, _, _ => rfl
  | t :: J, s, hJ, hs => by
    have ht := hJ t (List.mem_cons_self ..)
    have hJ' : ∀ u ∈ J, u.ok := fun u hu => hJ u (List.mem_cons_of_mem _ hu)
    unfold pushJ pushK
    by_cases h1 : s.n < wd s.s ∧ t = sibS s
    · obtain ⟨h1, h2⟩ := h1
      have e := sib_n s
      have h3 : t.n < wd t.s := by rw [h2, e.1, e.2]; exact h1
      have h4 : sibS t = s := by rw [h2]; exact sib_sib hs h1
      have h5 : abvS t = abvS s := by rw [h2]; exact sib_abv hs h1
      rw [if_pos (by rw [decide_eq_true h1, (eqS_iff _ _).2 h2]; rfl), if_pos (by rw [decide_eq_true h3, (eqS_iff _ _).2 h4]; rfl), h5]
      exact push_one J (abvS s) hJ' (abv_ok hs h1)
    · have h2 : ¬ (t.n < wd t.s ∧ sibS t = s) := by
        rintro ⟨a, b⟩
        have e := sib_n t
        exact h1 ⟨by rw [← b, e.1, e.2]; exact a, by rw [← b]; exact (sib_sib ht a).symm⟩
      rw [if_neg, if_neg]
      · rw [Bool.and_eq_true, decide_eq_true_eq, eqS_iff]; exact h2
      · rw [Bool.and_eq_true, decide_eq_true_eq, eqS_iff]; exact h1
def keyP (x : Sp) : Nat := keyN x.s x.H x.L
theorem key_eq (x : Sp) : keyP x = (if x.s then 340282366920938463463374607431768211456 else 0) + x.adr := rfl
theorem adr_lt9 (x : Sp) : x.adr < 340282366920938463463374607431768211456 := (x.H ++ x.L).isLt
theorem key_le {x y : Sp} (h : x.s = y.s) : keyP x ≤ keyP y ↔ x.adr ≤ y.adr := by
  rw [key_eq, key_eq, h]; omega
theorem key_s {x y z : Sp} (h1 : keyP x ≤ keyP y) (h2 : keyP y ≤ keyP z) (h : x.s = z.s) : y.s = x.s := by
  rw [key_eq] at h1 h2
  rw [key_eq y] at h1; rw [key_eq z] at h2
  have a := adr_lt9 x; have b := adr_lt9 y; have c := adr_lt9 z
  rw [← h] at h2
  cases hx : x.s <;> cases hy : y.s <;> simp [hx, hy] at h1 h2 ⊢ <;> omega
/-- A stack that rises: each is right, and begins no farther on than those above it. -/
def Ris (J : List Sp) : Prop := (∀ t ∈ J, t.ok) ∧ J.Pairwise (fun a b => keyP b ≤ keyP a)
theorem Ris.tail {t : Sp} {J : List Sp} (h : Ris (t :: J)) : Ris J := ⟨fun u hu => h.1 u (List.mem_cons_of_mem _ hu), (List.pairwise_cons.1 h.2).2⟩
/-- What is pushed ends where the last one ends behind it, and begins no farther on. -/
theorem push_end : ∀ (J : List Sp) (s : Sp), Ris J → s.ok → (∀ t ∈ J, keyP t ≤ keyP s) → ∃ h T, pushJ J s = h :: T ∧ Ris (h :: T) ∧ h.s = s.s ∧ h.adr ≤ s.adr ∧ s.n ≤ h.n ∧ h.adr + 2 ^ h.n = s.adr + 2 ^ s.n
  | [], s, _, hs, _ => ⟨s, [], rfl, ⟨fun t ht => by rw [List.mem_singleton] at ht; rw [ht]; exact hs, List.pairwise_singleton _ _⟩, rfl, Nat.le_refl _, Nat.le_refl _, rfl⟩
  | t :: J, s, hJ, hs, hk => by
    unfold pushJ
    by_cases h1 : s.n < wd s.s ∧ t = sibS s
    · obtain ⟨h1, h2⟩ := h1
      rw [if_pos (by rw [decide_eq_true h1, (eqS_iff _ _).2 h2]; rfl)]
      have hA := abv_ok hs h1
      have e := sib_n s
      have kt := hk t (List.mem_cons_self ..)
      have hp : (2 : Nat) ^ (s.n + 1) = 2 ^ s.n + 2 ^ s.n := by rw [Nat.pow_succ]; omega
      have h0 : 0 < 2 ^ s.n := Nat.pow_pos (by omega)
      have hts : t.s = s.s := by rw [h2]; exact e.2
      have hta : t.adr ≤ s.adr := (key_le hts).1 kt
      have hup : s.adr = (abvS s).adr + 2 ^ s.n ∧ t.adr = (abvS s).adr := by
        rcases sib_cases hs h1 with ⟨a, b⟩ | ⟨a, b⟩
        · rw [h2, b, upp_num hA rfl] at hta; omega
        · exact ⟨a, by rw [h2, b, low_adr]⟩
      have hkA : keyP (abvS s) = keyP t := by rw [key_eq, key_eq, hup.2, hts]; rfl
      obtain ⟨h, T, p1, p2, p3, p4, p5, p6⟩ := push_end J (abvS s) hJ.tail hA (fun u hu => by rw [hkA]; exact (List.pairwise_cons.1 hJ.2).1 u hu)
      have q5 : s.n + 1 ≤ h.n := p5
      refine ⟨h, T, p1, p2, p3, by omega, by omega, ?_⟩
      rw [p6]; show (abvS s).adr + 2 ^ (s.n + 1) = _; omega
    · rw [if_neg (by rw [Bool.and_eq_true, decide_eq_true_eq, eqS_iff]; exact h1)]
      exact ⟨s, t :: J, rfl, ⟨fun u hu => by rcases List.mem_cons.1 hu with h | h; exact h ▸ hs; exact hJ.1 u h, List.pairwise_cons.2 ⟨hk, hJ.2⟩⟩, rfl, Nat.le_refl _, Nat.le_refl _, rfl⟩
/-- The program's step; the specification's two. -/
def joinP (J : List Sp) (s : Sp) : List Sp := match J with
  | [] => pushJ [] s
  | t :: J' => if wB s t = true then t :: J' else pushJ (t :: J') s
def keepP (K : List Sp) (s : Sp) : List Sp := match K with
  | [] => [s]
  | t :: K' => if wB s t = true then t :: K' else s :: t :: K'
/-- The last kept k and the last joined h: they end alike. -/
def Tie (k h : Sp) : Prop := k.ok ∧ h.s = k.s ∧ h.adr ≤ k.adr ∧ k.n ≤ h.n ∧ h.adr + 2 ^ h.n = k.adr + 2 ^ k.n
theorem tie_same {k h x : Sp} (t : Tie k h) (hh : h.ok) (hx : x.ok) (h1 : keyP k ≤ keyP x) (h2 : keyP k = keyP x → x.n ≤ k.n) : wB x h = wB x k := by
  obtain ⟨hk, t1, t2, t3, t4⟩ := t
  rw [Bool.eq_iff_iff]
  constructor
  · intro hw
    obtain ⟨a1, a2, a3, a4⟩ := (wB_num hh).1 hw
    have hxs : k.s = x.s := t1.symm.trans a2.symm
    have hka : k.adr ≤ x.adr := (key_le hxs).1 h1
    have hz : wB (subN x 0) k = true := (wB_num hk).2 ⟨Nat.zero_le _, hxs.symm, hka, by show x.adr < _; omega⟩
    have hzx : wB (subN x 0) x = true := subN_in hx (Nat.zero_le _)
    rcases wB_nest hzx hz with h | h
    · exact h
    · obtain ⟨b1, b2, b3, b4⟩ := (wB_num hx).1 h
      have he : k.adr = x.adr := by omega
      have hn := h2 (by rw [key_eq, key_eq, hxs, he])
      exact (wB_num hk).2 ⟨hn, hxs.symm, hka, by have : 0 < 2 ^ k.n := Nat.pow_pos (by omega); omega⟩
  · intro hw
    obtain ⟨a1, a2, a3, a4⟩ := (wB_num hk).1 hw
    exact (wB_num hh).2 ⟨by omega, by rw [a2, t1], by omega, by omega⟩
/-- Sorted: by the address, the greater first. -/
def Srd (xs : List Sp) : Prop := xs.Pairwise (fun x y => keyP x < keyP y ∨ (keyP x = keyP y ∧ y.n ≤ x.n))
theorem fold_both : ∀ (xs : List Sp) (J K : List Sp), (∀ x ∈ xs, x.ok) → Srd xs → Ris J → (J = [] ↔ K = []) → (∀ h T k T', J = h :: T → K = k :: T' → Tie k h ∧ ∀ x ∈ xs, keyP k < keyP x ∨ (keyP k = keyP x ∧ x.n ≤ k.n)) → J = K.reverse.foldl pushJ [] →
    xs.foldl joinP J = (xs.foldl keepP K).reverse.foldl pushJ []
  | [], J, K, _, _, _, _, _, he => he
  | x :: xs, J, K, hok, hs, hJ, h0, ht, he => by
    have hx := hok x (List.mem_cons_self ..)
    have hok' : ∀ y ∈ xs, y.ok := fun y hy => hok y (List.mem_cons_of_mem _ hy)
    obtain ⟨hsx, hs'⟩ := List.pairwise_cons.1 hs
    rw [List.foldl_cons, List.foldl_cons]
    match J, K, h0, ht, he, hJ with
    | [], [], _, _, _, _ =>
      refine fold_both xs (joinP [] x) (keepP [] x) hok' hs' ⟨fun t h => by rw [List.mem_singleton.1 h]; exact hx, List.pairwise_singleton _ _⟩ ⟨(fun h => by cases h), (fun h => by cases h)⟩ ?_ rfl
      intro h T k T' e1 e2
      have e1' : [x] = h :: T := e1
      have e2' : [x] = k :: T' := e2
      simp at e1' e2'
      obtain ⟨rfl, _⟩ := e1'
      obtain ⟨rfl, _⟩ := e2'
      exact ⟨⟨hx, rfl, Nat.le_refl _, Nat.le_refl _, rfl⟩, hsx⟩
    | [], k :: K', h0, _, _, _ => exact absurd (h0.1 rfl) (by simp)
    | h :: T, [], h0, _, _, _ => exact absurd (h0.2 rfl) (by simp)
    | h :: T, k :: K', h0, ht, he, hJ =>
      obtain ⟨tie, hlt⟩ := ht h T k K' rfl rfl
      have hkx := hlt x (List.mem_cons_self ..)
      have hw : wB x h = wB x k := tie_same tie (hJ.1 h (List.mem_cons_self ..)) hx (by omega) (fun e => by omega)
      cases hc : wB x k
      · have e1 : joinP (h :: T) x = pushJ (h :: T) x := by unfold joinP; simp only; rw [if_neg (by rw [hw, hc]; simp)]
        have e2 : keepP (k :: K') x = x :: k :: K' := by unfold keepP; simp only; rw [if_neg (by rw [hc]; simp)]
        have hall : ∀ t ∈ h :: T, keyP t ≤ keyP x := fun t hm => by
          have hk : keyP h ≤ keyP k := (key_le tie.2.1).2 tie.2.2.1
          rcases List.mem_cons.1 hm with rfl | hm
          · omega
          · have := (List.pairwise_cons.1 hJ.2).1 t hm; omega
        obtain ⟨h', T', p1, p2, p3, p4, p5, p6⟩ := push_end (h :: T) x hJ hx hall
        rw [e1, e2, p1]
        refine fold_both xs (h' :: T') (x :: k :: K') hok' hs' p2 ⟨(fun h => by cases h), (fun h => by cases h)⟩ ?_ ?_
        · intro a b c d q1 q2
          simp at q1 q2
          obtain ⟨rfl, _⟩ := q1
          obtain ⟨rfl, _⟩ := q2
          exact ⟨⟨hx, p3, p4, p5, p6⟩, hsx⟩
        · rw [List.reverse_cons, List.foldl_append, ← he, List.foldl_cons, List.foldl_nil, p1]
      · have e1 : joinP (h :: T) x = h :: T := by unfold joinP; simp only; rw [if_pos (by rw [hw, hc])]
        have e2 : keepP (k :: K') x = k :: K' := by unfold keepP; simp only; rw [if_pos hc]
        rw [e1, e2]
        exact fold_both xs (h :: T) (k :: K') hok' hs' hJ h0 (fun a b c d q1 q2 => ⟨(ht a b c d q1 q2).1, fun y hy => (ht a b c d q1 q2).2 y (List.mem_cons_of_mem _ hy)⟩) he
theorem keep_ok : ∀ (xs K : List Sp), (∀ x ∈ xs, x.ok) → (∀ x ∈ K, x.ok) → ∀ x ∈ xs.foldl keepP K, x.ok
  | [], _, _, hK => hK
  | x :: xs, K, hx, hK => by
    rw [List.foldl_cons]
    refine keep_ok xs _ (fun y hy => hx y (List.mem_cons_of_mem _ hy)) ?_
    have h0 := hx x (List.mem_cons_self ..)
    match K, hK with
    | [], _ => intro y hy; rw [List.mem_singleton.1 hy]; exact h0
    | t :: K', hK =>
      unfold keepP
      simp only
      split
      · exact hK
      · intro y hy
        rcases List.mem_cons.1 hy with h | h
        · exact h ▸ h0
        · exact hK y h
/-- What the program joins is what the specification collapses. -/
theorem coll_one (xs : List Sp) (hok : ∀ x ∈ xs, x.ok) (hs : Srd xs) : xs.foldl joinP [] = (xs.foldl keepP []).reverse.foldl pushJ [] :=
  fold_both xs [] [] hok hs ⟨fun _ h => absurd h List.not_mem_nil, List.Pairwise.nil⟩ ⟨fun _ => rfl, fun _ => rfl⟩ (fun _ _ _ _ h => by cases h) rfl

end Go.Proofs.Ytgohffeneibhdaa
