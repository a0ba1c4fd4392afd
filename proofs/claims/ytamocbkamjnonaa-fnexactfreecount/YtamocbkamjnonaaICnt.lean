/-
  The program's FreeCount: how many have room, up to 2^62.
-/
import Derived.Test.YtamocbkamjnonaaSFirst
namespace Go.Proofs.Ytamocbkamjnonaa
open Go.RowKit

attribute [local go_sem] Oper.semAt_some

def fitN (d : Int) : Int := 2 ^ (min d 62).toNat
def cnt1 (bits : Int) (c : Int) (x : Sp) : Int := c + min (fitN (bits - ((wd x.s : Int) - x.n))) (4611686018427387904 - c)
def cnt (bits : Int) (zs : List Sp) : Int := zs.foldl (cnt1 bits) 0
theorem cnt_snoc (bits : Int) (zs : List Sp) (x : Sp) : cnt bits (zs ++ [x]) = cnt1 bits (cnt bits zs) x := by unfold cnt; rw [List.foldl_append]; rfl
theorem fit_pos (d : Int) : 0 < fitN d := by unfold fitN; exact Int.pow_pos (by omega)
theorem fit_le (d : Int) : fitN d ≤ 4611686018427387904 := by
  unfold fitN
  have h : (min d 62).toNat ≤ 62 := by omega
  have h2 : (2 : Nat) ^ (min d 62).toNat ≤ 2 ^ 62 := Nat.pow_le_pow_right (by omega) h
  have h3 : ((2 : Int) ^ (min d 62).toNat) = ((2 ^ (min d 62).toNat : Nat) : Int) := by norm_cast
  rw [h3]
  have h4 : (2 : Nat) ^ 62 = 4611686018427387904 := by decide
  omega
theorem cnt1_bd (bits c : Int) (x : Sp) (h0 : 0 ≤ c) (h1 : c ≤ 4611686018427387904) : c ≤ cnt1 bits c x ∧ cnt1 bits c x ≤ 4611686018427387904 := by
  unfold cnt1
  have := fit_pos (bits - ((wd x.s : Int) - x.n))
  omega
theorem cntF_bd (bits : Int) : ∀ (zs : List Sp) (c : Int), 0 ≤ c → c ≤ 4611686018427387904 → c ≤ zs.foldl (cnt1 bits) c ∧ zs.foldl (cnt1 bits) c ≤ 4611686018427387904
  | [], c, _, h1 => ⟨Int.le_refl _, h1⟩
  | x :: t, c, h0, h1 => by
      have h := cnt1_bd bits c x h0 h1
      have h2 := cntF_bd bits t (cnt1 bits c x) (by omega) h.2
      exact ⟨Int.le_trans h.1 h2.1, h2.2⟩
theorem cnt_bd (bits : Int) (zs : List Sp) : 0 ≤ cnt bits zs ∧ cnt bits zs ≤ 4611686018427387904 := cntF_bd bits zs 0 (by omega) (by omega)
def cM (s : Nat) (k : Nat) : Prop := k = s + 1 ∨ k = s + 2
theorem wrap_id (x : Int) (h0 : -9223372036854775808 ≤ x) (h1 : x ≤ 9223372036854775807) : IntKind.i64.wrap x = x := by rw [← w64]; unfold wrap64; omega

set_option maxRecDepth 10000 in
set_option maxHeartbeats 2000000 in
theorem iCnt (p : Pf) (a : Option Addr) (n cap : Nat) (bits : Int) (w : World) (zs : List Sp) (hzs : ∀ z ∈ zs, 0 ≤ bits - ((wd z.s : Int) - z.n) ∧ bits - ((wd z.s : Int) - z.n) ≤ 128) (hP : PartGives p a n cap bits w zs) :
    Calls Try.prog 23 #[.agg #[.bool p.s, .int .i64 p.H.toInt, .int .i64 p.L.toInt, .int .i64 p.b], .slice a n cap, .int .i64 bits] w fun e w' => e = .returned (.int .i64 (cnt bits zs)) ∧ Below w.heap.size w w' := by
  have HP := hidP hP
  have HZs := hidP hzs
  clear hP hzs
  refine (callsIn_wide (n := 9)).1 (callsIn_of_wp_marks Try.func23 rfl trivial ?_ rfl)
  simp only [Try.ntmps23, List.size_toArray, List.length_cons, List.length_nil, Nat.reduceAdd, Nat.reduceSub, Array.replicate_succ, Array.replicate_zero, List.push_toArray, List.append_toArray, List.nil_append, List.cons_append]
  gi_wp2
  refine ⟨trivial, (callsIn_wide.2 (partsFor_any p a n cap bits _)).mono ?_⟩
  rintro e w7 ⟨rfl, hw7⟩
  obtain ⟨os, hos⟩ : ∃ os : List Obj, os = [.cells #[.bool p.s, .int .i64 p.H.toInt, .int .i64 p.L.toInt, .int .i64 p.b] 37, .cells #[.int .i64 bits] 3, .cells #[.int .i64 0] 3, .cells #[.bool p.s, .int .i64 p.H.toInt, .int .i64 p.L.toInt, .int .i64 p.b] 37, .cells #[.slice a n cap] 24, .cells #[.int .i64 bits] 3] := ⟨_, rfl⟩
  have hw : w7 = allocs w os := by rw [hos]; exact hw7
  have hz : w7.heap.size = w.heap.size + 6 := by rw [hw, allocs_size, hos]; rfl
  have hb : Below w.heap.size w w7 := by rw [hw]; exact allocs_below os w
  have hat : ∀ i o, os[i]? = some o → w7.heap[w.heap.size + i]? = some o := by rw [hw]; exact allocs_at os w
  subst hos
  have h1 := hat 1 _ rfl
  have h2 := hat 2 _ rfl
  have h3 := hat 3 _ rfl
  have h4 := hat 4 _ rfl
  have h5 := hat 5 _ rfl
  have HB := hidP hb
  have H1 := hidP h1
  have H2 := hidP h2
  have HIt := hidP (HP.out w7 (w.heap.size + 5) (w.heap.size + 3) (w.heap.size + 4) hb (of1 h5).1 (of4 h3).1 (of1 h4).1 (by omega) (by omega) (by omega) (by omega))
  clear hw7 hw hat hb h1 h2 h3 h4 h5
  gi_wp2
  refine wp_range (gf := 71) (lb := #[.pointer (some ⟨w.heap.size + 5, 0, none⟩), .pointer (some ⟨w.heap.size + 3, 0, none⟩), .pointer (some ⟨w.heap.size + 4, 0, none⟩)]) rfl (enters_of Try.func71 (by kernel_rfl) rfl) HIt.out (fun _ => rfl) (fun k h => by omega)
    (fun pre M V => M = cM w.heap.size ∧ V.heap[w.heap.size + 1]? = some (.cells #[.int .i64 bits] 3) ∧ V.heap[w.heap.size + 2]? = some (.cells #[.int .i64 (cnt bits pre)] 3))
    (fun _ _ _ _ => False)
    (fun pre M A B h hk => ?hI) (fun c pre M A B h hk => h.elim) (cM w.heap.size) (fun k h => by unfold cM at h; omega) (fun k h hm => by unfold cM at hm; omega) ⟨rfl, H1.out, H2.out⟩ ?round ?done ?stop
  case hI =>
    obtain ⟨rfl, h1, h2⟩ := h
    exact ⟨rfl, hk.at (Or.inl rfl) h1, hk.at (Or.inr rfl) h2⟩
  case stop =>
    intro D c pre M1 V _ _ _ _ h
    exact h.elim
  case done =>
    rintro D M1 V hD hDl hMD ⟨rfl, h1, h2⟩ hg hK
    obtain ⟨v0, f0⟩ := of1 h2
    have lz2 := lt_heap h2
    have HE := hidP (bel_end HB.out hg (fun k h => by unfold cM at h; omega) hD (.deferred none))
    clear h1 h2 hg
    gi_wp2
    refine ⟨by simp, .inl ⟨_, _, rfl, run_takeDeferred hK, ?_⟩⟩
    exact ⟨_, results_tmp rfl _ _ _, rfl, HE.out⟩
  case round =>
    intro l' pre x M1 V _ hf hl' _ hlt hpre
    unfold encP
    refine rnd_of ?_
    intro K' HK'
    have HF0 := hidP hf
    have hxz : x ∈ zs := by
      obtain ⟨t, rfl⟩ := hpre
      simp
    have hbd := HZs.out x hxz
    clear hf hl' hpre hxz
    gi_wp2
    refine HK'.out _ _ ⟨(Below.refl _ V).alloc (Nat.le_refl _) _, ?_⟩
    clear HK'
    rintro V2 hk2 hs2 ⟨rfl, h1, h2⟩
    obtain ⟨x0, x1, x2, x3⟩ := box_cells V 37 x.pre
    have lV : V.heap.size < (V.alloc (.cells #[.bool x.s, .int .i64 x.H.toInt, .int .i64 x.L.toInt, .int .i64 ((wd x.s : Int) - x.n)] 37)).heap.size := by simp
    have nV : V.heap.size ≠ l' := by omega
    have y3 := (hk2.cell (p := ⟨V.heap.size, 3, none⟩) lV nV).trans x3
    have hVs : V.heap.size < V2.heap.size := by rw [hs2]; exact lV
    dsimp only [Sp.pre] at y3
    have fit2 : ∀ k, cM w.heap.size k → k < V2.heap.size := fun k h => by have := HF0.out k h; omega
    obtain ⟨v1, _⟩ := of1 h1
    obtain ⟨v2, f2⟩ := of1 h2
    have lz1 := lt_heap h1
    have lz2 := lt_heap h2
    have hcb := cnt_bd bits pre
    have HN := hidP (cnt_snoc bits pre x)
    obtain ⟨c, hc⟩ : ∃ c, c = cnt bits pre := ⟨_, rfl⟩
    rw [← hc] at v2 hcb HN h2
    obtain ⟨pb, hpb⟩ : ∃ pb, pb = (wd x.s : Int) - x.n := ⟨_, rfl⟩
    rw [← hpb] at y3 hbd
    obtain ⟨d, hd⟩ : ∃ d, d = bits - pb := ⟨_, rfl⟩
    have hdw : IntKind.i64.wrap (bits - pb) = d := by rw [wrap_id _ (by omega) (by omega), hd]
    rw [← hd] at hbd
    have hN2 : cnt bits (pre ++ [x]) = c + min (fitN d) (4611686018427387904 - c) := by rw [HN.out]; unfold cnt1; rw [← hpb, ← hd]
    have HN2 := hidP hN2
    have HFin : Hid (∀ r, r = cnt bits (pre ++ [x]) → ∃ M', (M' = cM w.heap.size ∧ (V2.setCell ⟨w.heap.size + 2, 0, none⟩ (.int .i64 r)).heap[w.heap.size + 1]? = some (.cells #[.int .i64 bits] 3) ∧ (V2.setCell ⟨w.heap.size + 2, 0, none⟩ (.int .i64 r)).heap[w.heap.size + 2]? = some (.cells #[.int .i64 (cnt bits (pre ++ [x]))] 3)) ∧ Grw (cM w.heap.size) M' V2 (V2.setCell ⟨w.heap.size + 2, 0, none⟩ (.int .i64 r))) :=
      hidP fun r hr => ⟨cM w.heap.size, ⟨rfl, setO (show w.heap.size + 1 ≠ w.heap.size + 2 by omega) h1, by rw [← hr]; exact set1 h2⟩, (Grw.refl fit2).set _ _ (Or.inr rfl)⟩
    have hd0 : 0 ≤ d := hbd.1
    have HD := hidP hbd
    have HC := hidP hcb
    obtain ⟨r, hr⟩ : ∃ r, r = 4611686018427387904 - c := ⟨_, rfl⟩
    have hrw : IntKind.i64.wrap (4611686018427387904 - c) = r := by rw [wrap_id _ (by omega) (by omega), hr]
    have hfp := fit_pos d
    have hfl := fit_le d
    obtain ⟨f, hf⟩ : ∃ f, f = fitN d := ⟨_, rfl⟩
    rw [← hf] at hfp hfl
    have HF := hidP hf
    have HR := hidP hr
    have HFp := hidP hfp
    have HFl := hidP hfl
    have HCf : Hid (f ≤ r → IntKind.i64.wrap (c + f) = c + f) := hidP fun h => wrap_id _ (by omega) (by omega)
    have hcr : IntKind.i64.wrap (c + r) = c + r := wrap_id _ (by omega) (by omega)
    clear hk2 hs2 h1 h2 x0 x1 x2 x3 lV nV fit2 hcb HN hc hpb hd hN2 hbd hr hfp hfl
    have fin : ∀ (_ : f ≤ r), Hid (c + f = cnt bits (pre ++ [x])) := fun h => hidP (by rw [HN2.out, ← HF.out, ← HR.out, Int.min_eq_left h])
    have fin2 : ∀ (_ : r ≤ f), Hid (c + r = cnt bits (pre ++ [x])) := fun h => hidP (by rw [HN2.out, ← HF.out, ← HR.out, Int.min_eq_right h])
    have Fin := hidP (And.intro fin fin2)
    clear fin fin2
    by_cases h62 : d < 62
    · have hdd : decide (d < 62) = true := decide_eq_true h62
      have hd64 : d ≤ 64 := by omega
      have hfe : f = 2 ^ d.toNat := by rw [hf]; unfold fitN; rw [Int.min_eq_left (by omega)]
      have hfw : IntKind.i64.wrap (1 * 2 ^ d.toNat) = f := by rw [Int.one_mul, ← hfe]; exact wrap_id _ (by have := HFp.out; omega) (by have := HFl.out; omega)
      have hfw' : IntKind.i64.wrap (2 ^ d.toNat) = f := by rw [← hfe]; exact wrap_id _ (by have := HFp.out; omega) (by have := HFl.out; omega)
      clear hfe hf
      rcases Int.lt_trichotomy f r with hlt' | heq | hgt'
      · have e1 : decide (f < r) = true := decide_eq_true hlt'
        have e2 : decide (r < f) = false := decide_eq_false (by omega)
        have hcf := HCf.out (by omega)
        have E := hidP (Fin.out.1 (by omega)).out
        gi_wp2
        exact HFin.out _ E.out
      · subst heq
        have hcf := HCf.out (by omega)
        have E := hidP (Fin.out.1 (by omega)).out
        gi_wp2
        exact HFin.out _ E.out
      · have e1 : decide (f < r) = false := decide_eq_false (by omega)
        have e2 : decide (r < f) = true := decide_eq_true hgt'
        have E := hidP (Fin.out.2 (by omega)).out
        gi_wp2
        exact HFin.out _ E.out
    · have hdd : decide (d < 62) = false := decide_eq_false h62
      have hd6 : 62 ≤ d := by omega
      have hfe : f = 4611686018427387904 := by rw [hf]; unfold fitN; rw [Int.min_eq_right hd6]; rfl
      subst hfe
      clear hf
      have hw62 : IntKind.i64.wrap 4611686018427387904 = 4611686018427387904 := by decide
      have hw62' : wrap64 4611686018427387904 = 4611686018427387904 := by unfold wrap64; omega
      rcases Int.lt_trichotomy 4611686018427387904 r with hlt' | heq | hgt'
      · exfalso
        have := HR.out
        have := HC.out
        omega
      · subst heq
        have hcf := HCf.out (by omega)
        have E := hidP (Fin.out.1 (by omega)).out
        rcases Int.lt_or_eq_of_le hd6 with hd7 | hd7
        · have e3 : decide (62 < d) = true := decide_eq_true hd7
          have e4 : decide (d ≤ 62) = false := decide_eq_false (by omega)
          clear h62
          gi_wp2
          exact HFin.out _ E.out
        · subst hd7
          clear h62 hdd
          gi_wp2
          exact HFin.out _ E.out
      · have e1 : decide (4611686018427387904 < r) = false := decide_eq_false (by omega)
        have e2 : decide (r < 4611686018427387904) = true := decide_eq_true hgt'
        have E := hidP (Fin.out.2 (by omega)).out
        rcases Int.lt_or_eq_of_le hd6 with hd7 | hd7
        · have e3 : decide (62 < d) = true := decide_eq_true hd7
          have e4 : decide (d ≤ 62) = false := decide_eq_false (by omega)
          clear h62
          gi_wp2
          exact HFin.out _ E.out
        · subst hd7
          clear h62 hdd
          gi_wp2
          exact HFin.out _ E.out

end Go.Proofs.Ytamocbkamjnonaa
