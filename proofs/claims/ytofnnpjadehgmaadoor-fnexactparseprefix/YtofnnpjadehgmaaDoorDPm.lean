/-
  The texts of addresses are read back, by the program's plain twins and by the specification's.
-/
import Derived.Test.YtofnnpjadehgmaaDoorDEq
import Derived.Test.YtofnnpjadehgmaaDoorDPl8
namespace Go.Proofs.YtofnnpjadehgmaaDoor
open Go.RowKit

/-- The digits' values. -/
theorem dg_hexb : ∀ k : Nat, k < 16 → dgv ((hexb k).toNat : Int) = k ∧ (hexb k).toNat ≠ 58 ∧ (hexb k).toNat ≠ 46 ∧ (hexb k).toNat ≠ 32 ∧ (hexb k).toNat ≠ 47 := by decide
theorem dgk_hexb (k : Nat) (b : Int) (h : k < 16) (hb : (k : Int) < b) : dgk ((hexb k).toNat : Int) b = true := by
  unfold dgk; rw [(dg_hexb k h).1]; simp; omega
/-- One digit is read. -/
theorem rn_one (sep base most : Int) (hs : sep = 58 ∨ sep = 46) (k : Nat) (hk : k < 16) (hb : (k : Int) < base) (r : List UInt8) (done : List Int) (cur v : Int) (hv : (if cur < 0 then 0 else cur) * base + k = v) (hm : v ≤ most) :
    rn sep base most (hexb k :: r) done cur = rn sep base most r done v := by
  have e := dg_hexb k hk
  rw [rn, if_neg (by rcases hs with rfl | rfl <;> omega), if_pos (dgk_hexb k base hk hb), e.1, hv, if_neg (by omega)]
theorem rn_hexs (z : Int) (h0 : 0 ≤ z) (h1 : z < 65536) (r : List UInt8) (done : List Int) :
    rn 58 16 65535 (hexs z ++ r) done (-1) = rn 58 16 65535 r done z := by
  unfold hexs
  split
  · rw [l0, List.singleton_append, rn_one 58 16 65535 (Or.inl rfl) _ (by omega) (by omega) r done (-1) z (by simp; omega) (by omega)]
  split
  · show rn 58 16 65535 (_ :: _ :: r) _ _ = _
    rw [rn_one 58 16 65535 (Or.inl rfl) _ (by omega) (by omega) _ done (-1) (z / 16) (by simp; omega) (by omega),
      rn_one 58 16 65535 (Or.inl rfl) _ (by omega) (by omega) _ done (z / 16) z (by rw [if_neg (by omega)]; omega) (by omega)]
  split
  · show rn 58 16 65535 (_ :: _ :: _ :: r) _ _ = _
    rw [rn_one 58 16 65535 (Or.inl rfl) _ (by omega) (by omega) _ done (-1) (z / 16 / 16) (by simp; omega) (by omega),
      rn_one 58 16 65535 (Or.inl rfl) _ (by omega) (by omega) _ done (z / 16 / 16) (z / 16) (by rw [if_neg (by omega)]; omega) (by omega),
      rn_one 58 16 65535 (Or.inl rfl) _ (by omega) (by omega) _ done (z / 16) z (by rw [if_neg (by omega)]; omega) (by omega)]
  · show rn 58 16 65535 (_ :: _ :: _ :: _ :: r) _ _ = _
    rw [rn_one 58 16 65535 (Or.inl rfl) _ (by omega) (by omega) _ done (-1) (z / 16 / 16 / 16) (by simp; omega) (by omega),
      rn_one 58 16 65535 (Or.inl rfl) _ (by omega) (by omega) _ done (z / 16 / 16 / 16) (z / 16 / 16) (by rw [if_neg (by omega)]; omega) (by omega),
      rn_one 58 16 65535 (Or.inl rfl) _ (by omega) (by omega) _ done (z / 16 / 16) (z / 16) (by rw [if_neg (by omega)]; omega) (by omega),
      rn_one 58 16 65535 (Or.inl rfl) _ (by omega) (by omega) _ done (z / 16) z (by rw [if_neg (by omega)]; omega) (by omega)]
theorem rn_decs (z : Int) (h0 : 0 ≤ z) (h1 : z < 256) (r : List UInt8) (done : List Int) :
    rn 46 10 255 (decs z ++ r) done (-1) = rn 46 10 255 r done z := by
  unfold decs
  split
  · rw [List.singleton_append, rn_one 46 10 255 (Or.inr rfl) _ (by omega) (by omega) r done (-1) z (by simp; omega) (by omega)]
  split
  · show rn 46 10 255 (_ :: _ :: r) _ _ = _
    rw [rn_one 46 10 255 (Or.inr rfl) _ (by omega) (by omega) _ done (-1) (z / 10) (by simp; omega) (by omega),
      rn_one 46 10 255 (Or.inr rfl) _ (by omega) (by omega) _ done (z / 10) z (by rw [if_neg (by omega)]; omega) (by omega)]
  · show rn 46 10 255 (_ :: _ :: _ :: r) _ _ = _
    rw [rn_one 46 10 255 (Or.inr rfl) _ (by omega) (by omega) _ done (-1) (z / 10 / 10) (by simp; omega) (by omega),
      rn_one 46 10 255 (Or.inr rfl) _ (by omega) (by omega) _ done (z / 10 / 10) (z / 10) (by rw [if_neg (by omega)]; omega) (by omega),
      rn_one 46 10 255 (Or.inr rfl) _ (by omega) (by omega) _ done (z / 10) z (by rw [if_neg (by omega)]; omega) (by omega)]
theorem rn_sp (sep base most : Int) (c : UInt8) (hc : (c.toNat : Int) = sep) (r : List UInt8) (done : List Int) (cur : Int) (hd : done.length < 7) :
    rn sep base most (c :: r) done cur = rn sep base most r (done ++ [cur]) (-1) := by
  rw [rn, if_pos hc, if_neg (by omega)]
/-- The text of 32 bits is read back. -/
theorem rn_txt4 (L : Int) : rn 46 10 255 (txt4 L) [] (-1) = some [L / 16777216 % 256, L / 65536 % 256, L / 256 % 256, L % 256] := by
  unfold txt4
  rw [List.nil_append]
  rw [show decs (L / 16777216 % 256) ++ [46] ++ decs (L / 65536 % 256) ++ [46] ++ decs (L / 256 % 256) ++ [46] ++ decs (L % 256) = decs (L / 16777216 % 256) ++ (46 :: (decs (L / 65536 % 256) ++ (46 :: (decs (L / 256 % 256) ++ (46 :: (decs (L % 256) ++ [])))))) from by simp]
  rw [rn_decs _ (by omega) (by omega), rn_sp 46 10 255 46 rfl _ _ _ (by simp), rn_decs _ (by omega) (by omega), rn_sp 46 10 255 46 rfl _ _ _ (by simp), rn_decs _ (by omega) (by omega), rn_sp 46 10 255 46 rfl _ _ _ (by simp), rn_decs _ (by omega) (by omega)]
  simp [rn]
/-- A colon is in no text of 32 bits. -/
theorem rn_colon : ∀ (l : List UInt8) (done : List Int) (cur : Int), (58 : UInt8) ∈ l → rn 46 10 255 l done cur = none
  | [], _, _, h => by simp at h
  | c :: r, done, cur, h => by
      rw [rn]
      by_cases hc : c = 58
      · subst hc
        rw [if_neg (by decide), if_neg (by decide)]
      · have hr : (58 : UInt8) ∈ r := by rcases List.mem_cons.1 h with h | h; exact absurd h.symm hc; exact h
        split
        · split; rfl; exact rn_colon r _ _ hr
        · split
          · by_cases e : 255 < (if cur < 0 then 0 else cur) * 10 + dgv (c.toNat : Int)
            · rw [if_pos e]
            · rw [if_neg e]; exact rn_colon r _ _ hr
          · rfl
theorem join_cc (x y : List UInt8) (r : List (List UInt8)) : Lib.join (x :: y :: r) [58] = x ++ (58 :: Lib.join (y :: r) [58]) := by
  simp [Lib.join, List.intercalate]
/-- Groups with colons between are read. -/
theorem rn_join : ∀ (zs : List Int) (_ : ∀ z ∈ zs, 0 ≤ z ∧ z < 65536) (r : List UInt8) (done : List Int) (hn : zs ≠ []) (_ : done.length + zs.length ≤ 8),
    rn 58 16 65535 (Lib.join (zs.map hexs) [58] ++ r) done (-1) = rn 58 16 65535 r (done ++ zs.dropLast) (zs.getLast hn)
  | [], _, _, _, hn, _ => absurd rfl hn
  | [z], hz, r, done, _, _ => by
      have := hz z (by simp)
      rw [List.map_cons, List.map_nil, Lib.join_one, rn_hexs z this.1 this.2]; simp
  | z :: y :: zs, hz, r, done, _, hl => by
      have h := hz z (by simp)
      simp at hl
      rw [List.map_cons, List.map_cons, join_cc, List.append_assoc, rn_hexs z h.1 h.2, List.cons_append, rn_sp 58 16 65535 58 rfl _ _ _ (by omega),
        ← List.map_cons, rn_join (y :: zs) (fun q hq => hz q (List.mem_cons_of_mem _ hq)) r (done ++ [z]) (by simp) (by simp; omega)]
      simp
theorem map_hex (g : Nat → Int) (a n : Nat) : ((List.range n).map fun j => hexs (g (a + j))) = (((List.range n).map fun j => g (a + j)).map hexs) := by simp
/-- The row of noughts. -/
theorem lrow_zero (g : Nat → Int) : ∀ k, (∀ j, (lrow g k).1 ≤ j → j < (lrow g k).2.1 → g j = 0) ∧ (∀ j, (lrow g k).2.2 ≤ j → j < k → g j = 0)
  | 0 => ⟨fun j _ h => by simp [lrow] at h, fun j _ h => by omega⟩
  | k + 1 => by
      obtain ⟨h1, h2⟩ := lrow_zero g k
      have bd := lrow_bd g k
      unfold lrow
      split
      · rename_i hk
        have h3 : ∀ j, (lrow g k).2.2 ≤ j → j < k + 1 → g j = 0 := fun j a b => by
          by_cases e : j = k
          · subst e; exact hk
          · exact h2 j a (by omega)
        split
        · exact ⟨fun j a b => h3 j a b, fun j a b => h3 j a b⟩
        · exact ⟨h1, h3⟩
      · exact ⟨h1, fun j a b => by simp at a; omega⟩
theorem idx_from (zs : List Int) (x : Int) : ∀ (A : List Int) (k : Nat), x ∉ A → Lib.idxFrom (A ++ x :: zs) x k = ((k + A.length : Nat) : Int)
  | [], k, _ => by simp [Lib.idxFrom]
  | a :: A, k, h => by
      simp at h
      rw [List.cons_append, Lib.idxFrom, if_neg (by intro e; exact h.1 e.symm), idx_from zs x A (k + 1) h.2]
      simp; omega
theorem idx_none (x : Int) : ∀ (A : List Int) (k : Nat), x ∉ A → Lib.idxFrom A x k = -1
  | [], k, _ => by simp [Lib.idxFrom]
  | a :: A, k, h => by
      simp at h
      rw [Lib.idxFrom, if_neg (by intro e; exact h.1 e.symm), idx_none x A (k + 1) h.2]
theorem lastM_at (z : Nat → Int) (c : Nat) (hc : z c = -1) : ∀ b, c < b → (∀ j, c < j → j < b → z j ≠ -1) → lastM z b = c + 1
  | 0, h, _ => by omega
  | b + 1, h, hz => by
      unfold lastM
      by_cases e : b = c
      · subst e; rw [if_pos hc]
      · rw [if_neg (hz b (by omega) (by omega))]; exact lastM_at z c hc b (by omega) (fun j a b => hz j a (by omega))
/-- Numbers with a gap are spread. -/
theorem sp_gap (A M B : List Int) (hA : (-1 : Int) ∉ A) (hB : (-1 : Int) ∉ B) (hM : ∀ m ∈ M, m = -1) (hn : M ≠ []) :
    sp (A ++ M ++ B) = some fun j => if 8 - B.length ≤ j then B.getD (j - (8 - B.length)) 0 else if j < A.length then A.getD j 0 else 0 := by
  obtain ⟨m, M', rfl⟩ : ∃ m M', M = m :: M' := by cases M with | nil => exact absurd rfl hn | cons m M' => exact ⟨m, M', rfl⟩
  have hm : m = -1 := hM m (by simp)
  subst hm
  have i1 : Lib.idxOf (A ++ (-1 :: M') ++ B) (-1) = (A.length : Int) := by
    unfold Lib.idxOf; rw [List.append_assoc, List.cons_append, idx_from _ _ A 0 hA]; simp
  have l1 : lastM (zf (A ++ (-1 :: M') ++ B)) (A ++ (-1 :: M') ++ B).length = A.length + M'.length + 1 := by
    refine lastM_at _ (A.length + M'.length) ?_ _ (by simp; omega) ?_
    · have hl : A.length + M'.length < (A ++ (-1 :: M') ++ B).length := by simp; omega
      unfold zf
      rw [List.getD_eq_getElem?_getD, List.getElem?_append_left (by simp), List.getElem?_append_right (by omega)]
      rw [List.getElem?_eq_getElem (by simp)]
      simp only [Option.getD_some]
      exact hM _ (List.getElem_mem _)
    · intro j h1 h2 e
      simp at h2
      unfold zf at e
      rw [List.getD_eq_getElem?_getD, List.getElem?_append_right (by simp; omega), List.getElem?_eq_getElem (by simp; omega)] at e
      simp only [Option.getD_some] at e
      exact hB (e ▸ List.getElem_mem _)
  unfold sp
  rw [if_neg (by rw [i1]; omega), l1, i1]
  congr 1
  funext j
  have hlen : (A ++ (-1 :: M') ++ B).length - (A.length + M'.length + 1) = B.length := by simp; omega
  rw [hlen]
  by_cases h : 8 - B.length ≤ j
  · rw [if_pos h, if_pos h]
    unfold zf
    rw [List.getD_eq_getElem?_getD, List.getD_eq_getElem?_getD, List.getElem?_append_right (by simp; omega)]
    congr 2
    simp; omega
  · rw [if_neg h, if_neg h]
    simp only [Int.toNat_natCast]
    by_cases h2 : j < A.length
    · rw [if_pos h2, if_pos h2]
      unfold zf
      rw [List.append_assoc, List.getD_eq_getElem?_getD, List.getD_eq_getElem?_getD, List.getElem?_append_left h2]
    · rw [if_neg h2, if_neg h2]
def glst (g : Nat → Int) (a n : Nat) : List Int := (List.range n).map fun j => g (a + j)
theorem gl_len (g : Nat → Int) (a n : Nat) : (glst g a n).length = n := by simp [glst]
theorem gl_at (g : Nat → Int) (a n j : Nat) (h : j < n) : (glst g a n).getD j 0 = g (a + j) := by
  unfold glst; rw [List.getD_eq_getElem?_getD, List.getElem?_eq_getElem (by simpa using h)]; simp
theorem gl_no (g : Nat → Int) (hg : ∀ i, 0 ≤ g i ∧ g i < 65536) (a n : Nat) : (-1 : Int) ∉ glst g a n := by
  intro h; unfold glst at h; simp at h; obtain ⟨j, _, e⟩ := h; have := hg (a + j); omega
theorem gl_bd (g : Nat → Int) (hg : ∀ i, 0 ≤ g i ∧ g i < 65536) (a n : Nat) : ∀ z ∈ glst g a n, 0 ≤ z ∧ z < 65536 := by
  intro z h; unfold glst at h; simp at h; obtain ⟨j, _, e⟩ := h; rw [← e]; exact hg _
/-- What is read of the text with a gap. -/
theorem rn_gap (g : Nat → Int) (hg : ∀ i, 0 ≤ g i ∧ g i < 65536) (f t : Nat) (h2 : f + 2 ≤ t) (h8 : t ≤ 8) :
    ∃ M : List Int, M ≠ [] ∧ (∀ m ∈ M, m = -1) ∧ rn 58 16 65535 (Lib.join ((glst g 0 f).map hexs) [58] ++ [58, 58] ++ Lib.join ((glst g t (8 - t)).map hexs) [58]) [] (-1) = some (glst g 0 f ++ M ++ glst g t (8 - t)) := by
  -- behind the two colons
  have back : ∀ done : List Int, done.length + (8 - t) ≤ 8 → done.length ≤ 8 → rn 58 16 65535 (Lib.join ((glst g t (8 - t)).map hexs) [58]) done (-1) = some (done ++ (if t = 8 then [-1] else []) ++ glst g t (8 - t)) := by
    intro done hd _
    by_cases e : t = 8
    · subst e; rw [if_pos rfl]
      show rn 58 16 65535 (Lib.join ([].map hexs) [58]) done (-1) = _
      rw [List.map_nil, Lib.join_nil, rn]; simp [glst]
    · rw [if_neg e]
      have hne : glst g t (8 - t) ≠ [] := by intro c; have := congrArg List.length c; rw [gl_len] at this; simp at this; omega
      have := rn_join (glst g t (8 - t)) (gl_bd g hg t _) [] done hne (by rw [gl_len]; omega)
      rw [List.append_nil] at this
      rw [this, rn, List.append_assoc, List.dropLast_concat_getLast]; simp
  by_cases e : f = 0
  · subst e
    refine ⟨[-1, -1] ++ (if t = 8 then [-1] else []), by simp, ?_, ?_⟩
    · intro m hm; split at hm <;> simp at hm <;> exact hm
    · show rn 58 16 65535 (Lib.join ([].map hexs) [58] ++ [58, 58] ++ _) [] (-1) = _
      rw [List.map_nil, Lib.join_nil, List.nil_append, List.cons_append, List.cons_append, List.nil_append, rn_sp 58 16 65535 58 rfl _ _ _ (by simp), rn_sp 58 16 65535 58 rfl _ _ _ (by simp), back _ (by simp; omega) (by simp)]
      simp [glst]
  · have hne : glst g 0 f ≠ [] := by intro c; have := congrArg List.length c; rw [gl_len] at this; simp at this; omega
    refine ⟨[-1] ++ (if t = 8 then [-1] else []), by simp, ?_, ?_⟩
    · intro m hm; split at hm <;> simp at hm <;> exact hm
    · rw [List.append_assoc, rn_join (glst g 0 f) (gl_bd g hg 0 _) _ [] hne (by rw [gl_len]; simp; omega), List.nil_append, List.cons_append, List.cons_append, List.nil_append,
        rn_sp 58 16 65535 58 rfl _ _ _ (by rw [List.length_dropLast, gl_len]; omega), List.dropLast_concat_getLast, rn_sp 58 16 65535 58 rfl _ _ _ (by rw [gl_len]; omega), back _ (by simp [gl_len]; omega) (by simp [gl_len]; omega)]
      simp
theorem txt8_gl (g : Nat → Int) : txt8 g = if (lrow g 8).2.1 - (lrow g 8).1 < 2 then Lib.join ((glst g 0 8).map hexs) [58] else Lib.join ((glst g 0 (lrow g 8).1).map hexs) [58] ++ [58, 58] ++ Lib.join ((glst g (lrow g 8).2.1 (8 - (lrow g 8).2.1)).map hexs) [58] := by
  unfold txt8 glst
  rw [map_hex, map_hex, map_hex]
/-- The text of 128 bits is read back. -/
theorem p128_txt8 (g : Nat → Int) (hg : ∀ i, 0 ≤ g i ∧ g i < 65536) : ∃ g', p128 (txt8 g) = some g' ∧ ∀ j, j < 8 → g' j = g j := by
  have bd := lrow_bd g 8
  have hz := (lrow_zero g 8).1
  rw [txt8_gl]
  unfold p128
  split
  · have := rn_join (glst g 0 8) (gl_bd g hg 0 8) [] [] (by simp [glst, List.range_succ]) (by rw [gl_len]; simp)
    rw [List.append_nil] at this
    rw [this, rn, List.nil_append, List.dropLast_concat_getLast]
    refine ⟨zf (glst g 0 8), ?_, fun j hj => ?_⟩
    · show sp (glst g 0 8) = _
      unfold sp
      rw [if_pos (by unfold Lib.idxOf; exact idx_none _ _ _ (gl_no g hg 0 8)), if_pos (gl_len g 0 8)]
    · unfold zf; rw [gl_at g 0 8 j hj, Nat.zero_add]
  · rename_i h
    obtain ⟨M, hn, hM, hr⟩ := rn_gap g hg (lrow g 8).1 (lrow g 8).2.1 (by omega) (by omega)
    rw [hr]
    refine ⟨_, sp_gap _ M _ (gl_no g hg _ _) (gl_no g hg _ _) hM hn, fun j hj => ?_⟩
    rw [gl_len, gl_len]
    by_cases h1 : 8 - (8 - (lrow g 8).2.1) ≤ j
    · rw [if_pos h1, gl_at _ _ _ _ (by omega)]; congr 1; omega
    · rw [if_neg h1]
      by_cases h2 : j < (lrow g 8).1
      · rw [if_pos h2, gl_at _ _ _ _ h2, Nat.zero_add]
      · rw [if_neg h2, hz j (by omega) (by omega)]
/-- There is a colon in it. -/
theorem colon_join (x y : List UInt8) (r : List (List UInt8)) : (58 : UInt8) ∈ Lib.join (x :: y :: r) [58] := by rw [join_cc]; simp
theorem colon_txt8 (g : Nat → Int) : (58 : UInt8) ∈ txt8 g := by
  unfold txt8
  split
  · simp only [List.range_succ, List.range_zero, List.nil_append, List.cons_append, List.map_cons, List.map_nil]; exact colon_join _ _ _
  · simp
/-- A text cut at a sign. -/
def splA (b : UInt8) (cur : List UInt8) : List UInt8 → List (List UInt8)
  | [] => [cur]
  | c :: r => if c = b then cur :: splA b [] r else splA b (cur ++ [c]) r
theorem splA_app (b : UInt8) : ∀ (l : List UInt8) (cur r : List UInt8), b ∉ l → splA b cur (l ++ r) = splA b (cur ++ l) r
  | [], cur, r, _ => by simp
  | c :: l, cur, r, h => by
      simp at h
      rw [List.cons_append, splA, if_neg (fun e => h.1 e.symm), splA_app b l (cur ++ [c]) r h.2]; simp
theorem splA_no (b : UInt8) (l : List UInt8) (h : b ∉ l) : splA b [] l = [l] := by
  have := splA_app b l [] [] h
  rw [List.append_nil, List.nil_append] at this
  rw [this, splA]
/-- The number of digits of a base. -/
def nm (base : Int) : List UInt8 → Int → Option Int
  | [], n => some n
  | c :: r, n => if dgk c.toNat base = true then nm base r (n * base + dgv c.toNat) else none
def nmbB (base most : Int) (l : List UInt8) : Option Int := if l.length = 0 ∨ 9 < l.length then none else (nm base l 0).bind fun n => if n ≤ most then some n else none
theorem nm_one (base : Int) (k : Nat) (hk : k < 16) (hb : (k : Int) < base) (r : List UInt8) (n v : Int) (hv : n * base + k = v) : nm base (hexb k :: r) n = nm base r v := by
  rw [nm, if_pos (dgk_hexb k base hk hb), (dg_hexb k hk).1, hv]
theorem nmbB_hexs (z : Int) (h0 : 0 ≤ z) (h1 : z < 65536) : nmbB 16 65535 (hexs z) = some z := by
  unfold nmbB hexs
  split
  · rw [if_neg (by simp [l0]), l0, nm_one 16 _ (by omega) (by omega) _ _ z (by omega)]; simp [nm]; omega
  split
  · rw [if_neg (by simp [l1]), l1, nm_one 16 _ (by omega) (by omega) _ _ (z / 16) (by omega), nm_one 16 _ (by omega) (by omega) _ _ z (by omega)]; simp [nm]; omega
  split
  · rw [if_neg (by simp [l2]), l2, nm_one 16 _ (by omega) (by omega) _ _ (z / 16 / 16) (by omega), nm_one 16 _ (by omega) (by omega) _ _ (z / 16) (by omega), nm_one 16 _ (by omega) (by omega) _ _ z (by omega)]; simp [nm]; omega
  · rw [if_neg (by simp [l3]), l3, nm_one 16 _ (by omega) (by omega) _ _ (z / 16 / 16 / 16) (by omega), nm_one 16 _ (by omega) (by omega) _ _ (z / 16 / 16) (by omega), nm_one 16 _ (by omega) (by omega) _ _ (z / 16) (by omega), nm_one 16 _ (by omega) (by omega) _ _ z (by omega)]; simp [nm]; omega
theorem nmbB_decs (z : Int) (h0 : 0 ≤ z) (h1 : z < 256) : nmbB 10 255 (decs z) = some z := by
  unfold nmbB decs
  split
  · rw [if_neg (by simp), nm_one 10 _ (by omega) (by omega) _ _ z (by omega)]; simp [nm]; omega
  split
  · rw [if_neg (by simp), List.singleton_append, nm_one 10 _ (by omega) (by omega) _ _ (z / 10) (by omega), nm_one 10 _ (by omega) (by omega) _ _ z (by omega)]; simp [nm]; omega
  · rw [if_neg (by simp), List.singleton_append, List.cons_append, List.singleton_append, nm_one 10 _ (by omega) (by omega) _ _ (z / 10 / 10) (by omega), nm_one 10 _ (by omega) (by omega) _ _ (z / 10) (by omega), nm_one 10 _ (by omega) (by omega) _ _ z (by omega)]; simp [nm]; omega
theorem hexb_no (b : UInt8) (hb : b = 58 ∨ b = 46 ∨ b = 32 ∨ b = 47) (k : Nat) (hk : k < 16) : b ≠ hexb k := by
  intro e
  have := dg_hexb k hk
  rw [← e] at this
  rcases hb with rfl | rfl | rfl | rfl <;> simp at this
theorem hexs_no (b : UInt8) (hb : b = 58 ∨ b = 46 ∨ b = 32 ∨ b = 47) (z : Int) (h0 : 0 ≤ z) (h1 : z < 65536) : b ∉ hexs z := by
  unfold hexs
  split
  · simp [l0]; exact hexb_no b hb _ (by omega)
  split
  · simp [l1]; exact ⟨hexb_no b hb _ (by omega), hexb_no b hb _ (by omega)⟩
  split
  · simp [l2]; exact ⟨hexb_no b hb _ (by omega), hexb_no b hb _ (by omega), hexb_no b hb _ (by omega)⟩
  · simp [l3]; exact ⟨hexb_no b hb _ (by omega), hexb_no b hb _ (by omega), hexb_no b hb _ (by omega), hexb_no b hb _ (by omega)⟩
theorem decs_no (b : UInt8) (hb : b = 58 ∨ b = 46 ∨ b = 32 ∨ b = 47) (z : Int) (h0 : 0 ≤ z) (h1 : z < 256) : b ∉ decs z := by
  unfold decs
  split
  · simp; exact hexb_no b hb _ (by omega)
  split
  · simp; exact ⟨hexb_no b hb _ (by omega), hexb_no b hb _ (by omega)⟩
  · simp; exact ⟨hexb_no b hb _ (by omega), hexb_no b hb _ (by omega), hexb_no b hb _ (by omega)⟩
theorem splA_sep (b : UInt8) (cur r : List UInt8) : splA b cur (b :: r) = cur :: splA b [] r := by rw [splA, if_pos rfl]
theorem spl_txt4 (L : Int) : splA 46 [] (txt4 L) = [decs (L / 16777216 % 256), decs (L / 65536 % 256), decs (L / 256 % 256), decs (L % 256)] := by
  have no : ∀ z : Int, 0 ≤ z → z < 256 → (46 : UInt8) ∉ decs z := fun z a b => decs_no 46 (by simp) z a b
  unfold txt4
  rw [List.nil_append]
  rw [show decs (L / 16777216 % 256) ++ [46] ++ decs (L / 65536 % 256) ++ [46] ++ decs (L / 256 % 256) ++ [46] ++ decs (L % 256) = decs (L / 16777216 % 256) ++ (46 :: (decs (L / 65536 % 256) ++ (46 :: (decs (L / 256 % 256) ++ (46 :: decs (L % 256)))))) from by simp]
  rw [splA_app 46 _ _ _ (no _ (by omega) (by omega)), splA_sep, splA_app 46 _ _ _ (no _ (by omega) (by omega)), splA_sep, splA_app 46 _ _ _ (no _ (by omega) (by omega)), splA_sep, splA_no 46 _ (no _ (by omega) (by omega))]
  simp
theorem mem_join (b : UInt8) (hb : b ≠ 58) : ∀ (ts : List (List UInt8)), (∀ t ∈ ts, b ∉ t) → b ∉ Lib.join ts [58]
  | [], _ => by simp [Lib.join_nil]
  | [t], h => by rw [Lib.join_one]; exact h t (by simp)
  | t :: u :: r, h => by
      rw [join_cc]
      simp only [List.mem_append, List.mem_cons, not_or]
      exact ⟨h t (by simp), hb, mem_join b hb (u :: r) (fun t ht => h t (List.mem_cons_of_mem _ ht))⟩
theorem gl_hex_no (b : UInt8) (hb : b = 58 ∨ b = 46 ∨ b = 32 ∨ b = 47) (g : Nat → Int) (hg : ∀ i, 0 ≤ g i ∧ g i < 65536) (a n : Nat) : ∀ t ∈ (glst g a n).map hexs, b ∉ t := by
  intro t ht
  obtain ⟨z, hz, rfl⟩ := List.mem_map.1 ht
  have := gl_bd g hg a n z hz
  exact hexs_no b hb z this.1 this.2
theorem txt8_no (b : UInt8) (hb : b = 46 ∨ b = 32 ∨ b = 47) (g : Nat → Int) (hg : ∀ i, 0 ≤ g i ∧ g i < 65536) : b ∉ txt8 g := by
  have h58 : b ≠ 58 := by rcases hb with rfl | rfl | rfl <;> decide
  have hb' : b = 58 ∨ b = 46 ∨ b = 32 ∨ b = 47 := Or.inr hb
  rw [txt8_gl]
  split
  · exact mem_join b h58 _ (gl_hex_no b hb' g hg _ _)
  · simp only [List.mem_append, List.mem_cons, not_or]
    exact ⟨⟨mem_join b h58 _ (gl_hex_no b hb' g hg _ _), h58, h58, by simp⟩, mem_join b h58 _ (gl_hex_no b hb' g hg _ _)⟩
/-- Groups with colons between are cut. -/
theorem spl_join : ∀ (ts : List (List UInt8)) (_ : ∀ t ∈ ts, (58 : UInt8) ∉ t) (r : List UInt8) (_ : ts ≠ []), splA 58 [] (Lib.join ts [58] ++ 58 :: r) = ts ++ splA 58 [] r
  | [], _, _, hn => absurd rfl hn
  | [t], h, r, _ => by
      rw [Lib.join_one, splA_app 58 _ _ _ (h t (by simp)), splA_sep]; simp
  | t :: u :: ts, h, r, _ => by
      rw [join_cc, List.append_assoc, splA_app 58 _ _ _ (h t (by simp)), List.cons_append, splA_sep, spl_join (u :: ts) (fun t ht => h t (List.mem_cons_of_mem _ ht)) r (by simp)]
      simp
theorem spl_join1 : ∀ (ts : List (List UInt8)) (_ : ∀ t ∈ ts, (58 : UInt8) ∉ t) (_ : ts ≠ []), splA 58 [] (Lib.join ts [58]) = ts
  | [], _, hn => absurd rfl hn
  | [t], h, _ => by rw [Lib.join_one, splA_no 58 _ (h t (by simp))]
  | t :: u :: ts, h, _ => by
      rw [join_cc, splA_app 58 _ _ _ (h t (by simp)), splA_sep, spl_join1 (u :: ts) (fun t ht => h t (List.mem_cons_of_mem _ ht)) (by simp)]
      simp
/-- The specification's first loop over the parts. -/
def sx1 : List (List UInt8) → List Int → Int → Option (List Int × Int)
  | [], gs, gap => some (gs, gap)
  | p :: ps, gs, gap => if p.length = 0 then sx1 ps gs (if gap < 0 then (gs.length : Int) else gap) else
      match nmbB 16 65535 p with
      | none => none
      | some n => sx1 ps (gs ++ [n]) gap
theorem hexs_ne (z : Int) : (hexs z).length ≠ 0 := by unfold hexs; split; simp [l0]; split; simp [l1]; split <;> simp [l2, l3]
theorem sx1_map : ∀ (zs : List Int) (_ : ∀ z ∈ zs, 0 ≤ z ∧ z < 65536) (ps : List (List UInt8)) (gs : List Int) (gap : Int), sx1 (zs.map hexs ++ ps) gs gap = sx1 ps (gs ++ zs) gap
  | [], _, ps, gs, gap => by simp
  | z :: zs, h, ps, gs, gap => by
      have hz := h z (by simp)
      rw [List.map_cons, List.cons_append, sx1, if_neg (hexs_ne z), nmbB_hexs z hz.1 hz.2]
      show sx1 (zs.map hexs ++ ps) (gs ++ [z]) gap = _
      rw [sx1_map zs (fun q hq => h q (List.mem_cons_of_mem _ hq))]; simp
theorem sx1_nil (ps : List (List UInt8)) (gs : List Int) (gap : Int) : sx1 ([] :: ps) gs gap = sx1 ps gs (if gap < 0 then (gs.length : Int) else gap) := by rw [sx1, if_pos (by simp)]
/-- The groups at their places. -/
def sxG (gs : List Int) (gap : Int) : Nat → Int := fun j => if gap < 0 then gs.getD j 0 else if (j : Int) < gap then gs.getD j 0 else if 8 - (gs.length : Int) + gap ≤ j then gs.getD (j + gs.length - 8) 0 else 0
def sSix (parts : List (List UInt8)) : Option (Nat → Int) := (sx1 parts [] (-1)).bind fun q => if 8 < q.1.length ∨ (q.2 < 0 ∧ q.1.length ≠ 8) then none else some (sxG q.1 q.2)
theorem sSix_txt8 (g : Nat → Int) (hg : ∀ i, 0 ≤ g i ∧ g i < 65536) : ∃ g', sSix (splA 58 [] (txt8 g)) = some g' ∧ ∀ j, j < 8 → g' j = g j := by
  have bd := lrow_bd g 8
  have hz := (lrow_zero g 8).1
  rw [txt8_gl]
  unfold sSix
  split
  · have hne : (glst g 0 8).map hexs ≠ [] := by simp [glst, List.range_succ]
    rw [spl_join1 _ (gl_hex_no 58 (by simp) g hg _ _) hne]
    have := sx1_map (glst g 0 8) (gl_bd g hg 0 8) [] [] (-1)
    rw [List.append_nil] at this
    rw [this, List.nil_append, sx1]
    refine ⟨_, by rw [Option.bind_some, if_neg (by simp [gl_len])], fun j hj => ?_⟩
    unfold sxG; rw [if_pos (by omega), gl_at g 0 8 j hj, Nat.zero_add]
  · rename_i h
    obtain ⟨f, hf⟩ : ∃ f, f = (lrow g 8).1 := ⟨_, rfl⟩
    obtain ⟨t, ht⟩ : ∃ t, t = (lrow g 8).2.1 := ⟨_, rfl⟩
    rw [← hf, ← ht] at bd hz h ⊢
    have key : sx1 (splA 58 [] (Lib.join ((glst g 0 f).map hexs) [58] ++ [58, 58] ++ Lib.join ((glst g t (8 - t)).map hexs) [58])) [] (-1) = some (glst g 0 f ++ glst g t (8 - t), (f : Int)) := by
      have back : ∀ gs : List Int, sx1 (splA 58 [] (Lib.join ((glst g t (8 - t)).map hexs) [58])) gs (f : Int) = some (gs ++ glst g t (8 - t), (f : Int)) := by
        intro gs
        by_cases e : t = 8
        · subst e
          show sx1 (splA 58 [] (Lib.join ([].map hexs) [58])) gs (f : Int) = _
          rw [List.map_nil, Lib.join_nil, splA, sx1_nil, if_neg (by omega), sx1]; simp [glst]
        · have hne : (glst g t (8 - t)).map hexs ≠ [] := by intro c; have := congrArg List.length c; rw [List.length_map, gl_len] at this; simp at this; omega
          rw [spl_join1 _ (gl_hex_no 58 (by simp) g hg _ _) hne]
          have := sx1_map (glst g t (8 - t)) (gl_bd g hg t _) [] gs (f : Int)
          rw [List.append_nil] at this
          rw [this, sx1]
      by_cases e : f = 0
      · subst e
        show sx1 (splA 58 [] (Lib.join ([].map hexs) [58] ++ [58, 58] ++ _)) [] (-1) = _
        rw [List.map_nil, Lib.join_nil, List.nil_append, List.cons_append, List.cons_append, List.nil_append, splA_sep, splA_sep, sx1_nil, if_pos (by omega), sx1_nil, if_neg (by simp)]
        exact (back []).trans (by simp [glst])
      · have hne : (glst g 0 f).map hexs ≠ [] := by intro c; have := congrArg List.length c; rw [List.length_map, gl_len] at this; simp at this; omega
        rw [List.append_assoc, List.cons_append, List.cons_append, List.nil_append, spl_join _ (gl_hex_no 58 (by simp) g hg _ _) _ hne, splA_sep, sx1_map _ (gl_bd g hg 0 f), List.nil_append, sx1_nil, if_pos (by omega), gl_len]
        exact back _
    rw [key]
    refine ⟨_, by rw [Option.bind_some, if_neg (by simp [gl_len]; omega)], fun j hj => ?_⟩
    unfold sxG
    dsimp only
    rw [if_neg (by omega), List.length_append, gl_len, gl_len]
    by_cases h1 : j < f
    · rw [if_pos (by omega), List.getD_eq_getElem?_getD, List.getElem?_append_left (by rw [gl_len]; exact h1), ← List.getD_eq_getElem?_getD, gl_at _ _ _ _ h1, Nat.zero_add]
    · rw [if_neg (by omega)]
      by_cases h2 : t ≤ j
      · rw [if_pos (by omega), List.getD_eq_getElem?_getD, List.getElem?_append_right (by rw [gl_len]; omega), ← List.getD_eq_getElem?_getD, gl_len, gl_at _ _ _ _ (by omega)]; congr 1; omega
      · rw [if_neg (by omega), hz j (by omega) (by omega)]
theorem hexs_len5 (x : Int) : (hexs x).length ≤ 4 := by unfold hexs; split; simp [l0]; split; simp [l1]; split <;> simp [l2, l3]
theorem join_len5 : ∀ (zs : List Int), (Lib.join (zs.map hexs) [58]).length ≤ 5 * zs.length
  | [] => by simp [Lib.join_nil]
  | [z] => by rw [List.map_cons, List.map_nil, Lib.join_one]; have := hexs_len5 z; simp; omega
  | z :: y :: zs => by
      have := join_len5 (y :: zs)
      have h := hexs_len5 z
      rw [List.map_cons, List.map_cons, join_cc]
      rw [List.map_cons] at this
      simp at this ⊢; omega
theorem txt8_len45 (g : Nat → Int) : (txt8 g).length ≤ 45 := by
  have bd := lrow_bd g 8
  rw [txt8_gl]
  split
  · have := join_len5 (glst g 0 8); rw [gl_len] at this; omega
  · have h1 := join_len5 (glst g 0 (lrow g 8).1)
    have h2 := join_len5 (glst g (lrow g 8).2.1 (8 - (lrow g 8).2.1))
    rw [gl_len] at h1 h2
    simp; omega
theorem decs_len3 (x : Int) : (decs x).length ≤ 3 := by unfold decs; split; simp; split <;> simp
theorem txt4_len45 (L : Int) : (txt4 L).length ≤ 45 := by
  have h1 := decs_len3 (L / 16777216 % 256); have h2 := decs_len3 (L / 65536 % 256); have h3 := decs_len3 (L / 256 % 256); have h4 := decs_len3 (L % 256)
  unfold txt4; simp; omega
end Go.Proofs.YtofnnpjadehgmaaDoor
