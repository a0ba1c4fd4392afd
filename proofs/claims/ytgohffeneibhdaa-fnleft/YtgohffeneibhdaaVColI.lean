/-
  The program's Collapse: spans sorted, each put onto a row of those that are joined.
-/
import Derived.Test.YtgohffeneibhdaaVJoin
import Derived.Test.YtgohffeneibhdaaMSrt
import Derived.Test.YtgohffeneibhdaaSSymC
import Derived.Test.YtgohffeneibhdaaPSpan
import Derived.Test.YtgohffeneibhdaaPPre
namespace Go.Proofs.Ytgohffeneibhdaa
open Go.RowKit

/-- A span out of its cells. -/
def unP (p : Pf) : Sp := ⟨p.s, p.H, p.L, p.b.toNat⟩
theorem un_spn (x : Sp) : unP x.spn = x := Sp.ext' rfl rfl rfl (by show ((x.n : Int)).toNat = x.n; omega)
theorem spn_inj {xs ys : List Sp} (h : xs.map Sp.spn = ys.map Sp.spn) : xs = ys := by
  have := congrArg (List.map unP) h
  simpa [List.map_map, Function.comp_def, un_spn] using this
theorem perm_spn {R : List Pf} {xs : List Sp} (h : R.Perm (xs.map Sp.spn)) : ∃ ys : List Sp, ys.Perm xs ∧ ys.map Sp.spn = R := by
  refine ⟨R.map unP, ?_, ?_⟩
  · have := h.map unP
    simpa [List.map_map, Function.comp_def, un_spn] using this
  · rw [List.map_map]
    have : ∀ r ∈ R, (Sp.spn ∘ unP) r = id r := fun r hr => by
      obtain ⟨x, _, rfl⟩ := List.mem_map.1 (h.mem_iff.1 hr)
      show (unP x.spn).spn = _
      rw [un_spn]; rfl
    rw [List.map_congr_left this, List.map_id]
theorem key_spn (x : Sp) : keyS x.spn = keyP x := rfl
theorem srd_srt {ys : List Sp} : Srd ys ↔ Srt cmpS (ys.map Sp.spn) := by
  unfold Srd Srt
  rw [List.pairwise_map]
  constructor
  · intro h
    refine h.imp (fun {x y} hxy => ?_)
    rw [cmpS_neg, key_spn, key_spn]
    show ¬ (keyP y < keyP x ∨ (keyP y = keyP x ∧ (x.n : Int) < (y.n : Int)))
    omega
  · intro h
    refine h.imp (fun {x y} hxy => ?_)
    rw [cmpS_neg, key_spn, key_spn] at hxy
    have hxy' : ¬ (keyP y < keyP x ∨ (keyP y = keyP x ∧ (x.n : Int) < (y.n : Int))) := hxy
    omega
theorem srd_uniq {xs ys zs : List Sp} (h1 : ys.Perm xs) (h2 : zs.Perm xs) (s1 : Srd ys) (s2 : Srd zs) : ys = zs :=
  spn_inj (spans_one ((h1.trans h2.symm).map Sp.spn) (srd_srt.1 s1) (srd_srt.1 s2))
theorem push_okl : ∀ (J : List Sp) (s : Sp), (∀ t ∈ J, t.ok) → s.ok → (∀ t ∈ pushJ J s, t.ok) ∧ (pushJ J s).length ≤ J.length + 1
  | [], s, _, hs => ⟨fun t ht => by rw [List.mem_singleton.1 ht]; exact hs, Nat.le_refl _⟩
  | t :: J, s, hJ, hs => by
    unfold pushJ
    by_cases h1 : s.n < wd s.s ∧ t = sibS s
    · rw [if_pos (by rw [decide_eq_true h1.1, (eqS_iff _ _).2 h1.2]; rfl)]
      have := push_okl J (abvS s) (fun u hu => hJ u (List.mem_cons_of_mem _ hu)) (abv_ok hs h1.1)
      exact ⟨this.1, by rw [List.length_cons]; omega⟩
    · rw [if_neg (by rw [Bool.and_eq_true, decide_eq_true_eq, eqS_iff]; exact h1)]
      refine ⟨fun u hu => ?_, by simp⟩
      rcases List.mem_cons.1 hu with h | h
      · exact h ▸ hs
      · exact hJ u h
theorem join_okl (J : List Sp) (s : Sp) (hJ : ∀ t ∈ J, t.ok) (hs : s.ok) : (∀ t ∈ joinP J s, t.ok) ∧ (joinP J s).length ≤ J.length + 1 := by
  cases J with
  | nil => exact push_okl [] s hJ hs
  | cons t J =>
    unfold joinP
    simp only
    split
    · exact ⟨hJ, by omega⟩
    · exact push_okl (t :: J) s hJ hs
theorem fold_okl (ys : List Sp) (hy : ∀ y ∈ ys, y.ok) (i : Nat) : (∀ t ∈ (ys.take i).foldl joinP [], t.ok) ∧ ((ys.take i).foldl joinP []).length ≤ i := by
  induction i with
  | zero => exact ⟨fun t ht => by simp at ht, by simp⟩
  | succ i ih =>
    rcases Nat.lt_or_ge i ys.length with h | h
    · rw [List.take_succ_eq_append_getElem h, List.foldl_append, List.foldl_cons, List.foldl_nil]
      have := join_okl _ ys[i] ih.1 (hy _ (List.getElem_mem h))
      exact ⟨this.1, by omega⟩
    · rw [List.take_of_length_le (by omega)]
      rw [List.take_of_length_le h] at ih
      exact ⟨ih.1, by omega⟩
def collP (ys : List Sp) : List Sp := (ys.foldl joinP []).reverse

set_option maxHeartbeats 1000000 in
theorem cloneSpan_some (ad : Addr) (n cap : Nat) (ps : List Pf) (w : World) (hn : n = ps.length) (hB : Row w (some ad) ps) (hl : n ≤ 1048576) :
    Calls Try.prog 59 #[.slice (some ad) n cap] w fun e w' => ∃ g c', e = .returned (.slice (some ⟨g, 0, none⟩) n c') ∧ OwnR 55 w' w.heap.size (.slice (some ⟨g, 0, none⟩) n c') ps ∧ Below w.heap.size w w' := by
  have hq : ∀ w, (binOp .eql 50 (.slice (some ad) n cap) (.slice none 0 0)).run Try.prog w = .ok (.bool (some ad).isNone) w := fun w => Lib.run_eql_slice_nil w _ _ (some ad) n cap 0 0 Try.fourS'.1
  have HB := hidP hB
  have HN := hidP hn
  clear hB hn
  have HZ := hidP (own_zero w w.heap.size 55 (Nat.le_refl _))
  have HZB := hidP (below_new w (.cells #[] 55))
  go_enter Try.func59, Try.ntmps59
  go_wp2_with (at_builtin; refine wpList_appR Try.fourS' _ rfl (.tmp 5) (.tmp 6) 50 rfl w.heap.size (some ⟨w.heap.size, 0, none⟩) 0 0 n [] ps (.slice (some ad) n cap) rfl rfl HN.out HZ.out rfl (src_row Try.fourS' n cap HN.out (HB.out.later HZB.out) (fun h => by cases h)) (by omega) (by simp) ?_; intro a6 c6 w6 ho6 hg6 ht6)
  have hgg : ∃ gg, a6 = some ⟨gg, 0, none⟩ := by rcases ht6 with h | h <;> exact ⟨_, h⟩
  obtain ⟨gg, rfl⟩ := hgg
  have HF := hidP (And.intro ho6 (below_appR HZB.out HZ.out (by simp) hg6))
  clear ho6 hg6 ht6
  go_wp2_with fail
  go_ret
  have h := HF.out
  rw [Nat.zero_add, List.nil_append] at h
  exact ⟨gg, c6, rfl, h.1, h.2⟩

set_option maxHeartbeats 1000000 in
theorem sortedBy_some (A : Pf → Prop) (c : Pf → Pf → Int) (ho : Ordr A c) (hc : Cmpr A c) (ad : Addr) (n cap : Nat) (X : List Pf) (hn : n = X.length) (hA : ∀ x ∈ X, A x) (hn9 : n ≤ 1048576) (hM : ∀ g cap B k, SymP A c g n cap B k) (w : World) (h : Row w (some ad) X) :
    Calls Try.prog 29 #[.slice (some ad) n cap, .func (.func 30) #[] #[]] w fun e w' => ∃ g c' R, e = .returned (.slice (some ⟨g, 0, none⟩) n c') ∧ R.Perm X ∧ Srt c R ∧ OwnR 55 w' w.heap.size (.slice (some ⟨g, 0, none⟩) n c') R ∧ Below w.heap.size w w' := by
  have HC := hidP (cloneSpan_some ad n cap X w hn h hn9)
  have HS := hidP (fun g cap' B W h => sortStable_any A c ho hc g n cap' B X hA (by omega) (hM g cap' B) W h)
  clear h ho hc hA hn hM
  go_enter Try.func29, Try.ntmps29
  go_wp2_with fail
  refine (HC.out).mono ?_
  rintro e w1 ⟨gg, c1, rfl, o1, hb1⟩
  have HO := hidP o1
  have HB1 := hidP hb1
  clear o1 hb1
  go_wp2_with fail
  refine (HS.out gg c1 w.heap.size w1 HO.out).mono ?_
  rintro e w2 ⟨⟨v, rfl⟩, ⟨R, r1, r2, r3⟩, hg⟩
  have HF := hidP (And.intro r1 (And.intro r2 (And.intro r3 (HB1.out.grown hg HB1.out.size (fun k hk => (HO.out.lt k hk).1)))))
  clear r1 r2 r3 hg
  go_wp2_with fail
  go_ret
  exact ⟨gg, c1, R, rfl, HF.out.1, HF.out.2.1, HF.out.2.2.1, HF.out.2.2.2⟩

theorem pre_sp {xs : List Sp} (hx : ∀ x ∈ xs, x.ok) : (xs.map Sp.pre).map Pf.sp = xs.map Sp.spn := by
  rw [List.map_map]
  refine List.map_congr_left (fun x hxm => ?_)
  have := (hx x hxm).2.1
  show Pf.mk x.s x.H x.L ((wd x.s : Int) - ((wd x.s : Int) - x.n)) = ⟨x.s, x.H, x.L, x.n⟩
  rw [show (wd x.s : Int) - ((wd x.s : Int) - x.n) = x.n by omega]
theorem pre_pok {xs : List Sp} (hx : ∀ x ∈ xs, x.ok) : (xs.map Sp.pre).all Pf.pok = true := by
  rw [List.all_eq_true]
  intro p hp
  obtain ⟨x, hxm, rfl⟩ := List.mem_map.1 hp
  exact (hx x hxm).pok

set_option maxRecDepth 10000 in
set_option maxHeartbeats 4000000 in
theorem iColl_yes (xs ys : List Sp) (hx : ∀ x ∈ xs, x.ok) (hl : xs.length ≤ 300) (hp : ys.Perm xs) (hs : Srd ys) (a : Option Addr) (n cap : Nat) (hn : n = xs.length) (w : World) (hB : Row w a (xs.map Sp.pre)) :
    Calls Try.prog 8 #[.slice a n cap] w fun e w' => ∃ g, e = .returned (.slice (some ⟨g, 0, none⟩) (collP ys).length (collP ys).length) ∧ OwnR 31 w' w.heap.size (.slice (some ⟨g, 0, none⟩) (collP ys).length (collP ys).length) ((collP ys).map Sp.pre) ∧ Below w.heap.size w w' := by
  have hyl : ys.length = n := by rw [hp.length_eq, hn]
  have hy : ∀ y ∈ ys, y.ok := fun y hym => hx y (hp.mem_iff.1 hym)
  have key := spansOf_short a cap (xs.map Sp.pre) w hB (by rw [List.length_map]; exact hl)
  rw [List.length_map, ← hn, pre_pok hx, pre_sp hx] at key
  have HSp := hidP key
  have HSo := hidP (fun (g : Nat) W h => sortedBy_some okS cmpS ordr_span cmpr_span ⟨g, 0, none⟩ n n (xs.map Sp.spn) (by rw [List.length_map, hn]) (fun p hpm => by obtain ⟨x, hxm, rfl⟩ := List.mem_map.1 hpm; exact (hx x hxm).1) (by omega) (fun g cap B => symC okS cmpS ordr_span cmpr_span g n cap B (by omega)) W h)
  have hn9 : n ≤ 300 := by omega
  have HPs := hidP (And.intro hp (And.intro hs (And.intro hy hyl)))
  clear hB key hp hs hy hyl hn hx hl
  go_enter Try.func8, Try.ntmps8
  go_wp2_with fail
  refine HSp.out.mono ?_
  rintro e w1 ⟨hor, hb1⟩
  obtain ⟨g1, rfl, o1⟩ : ∃ g, e = .returned (.tuple #[.slice (some ⟨g, 0, none⟩) n n, .bool true]) ∧ OwnR 55 w1 w.heap.size (.slice (some ⟨g, 0, none⟩) n n) (xs.map Sp.spn) := by
    rcases hor with h | h
    · exact h.2
    · exact absurd h.1 (by simp)
  have HO1 := hidP o1
  have HB1 := hidP hb1
  clear hor o1 hb1 HSp
  go_wp2_with fail
  refine (HSo.out g1 w1 HO1.out.row).mono ?_
  rintro e w2 ⟨g2, c2, R, rfl, r1, r2, r3, hb2⟩
  obtain ⟨zs, z1, z2⟩ := perm_spn r1
  rw [← z2] at r2 r3
  have hzy : zs = ys := srd_uniq z1 HPs.out.1 (srd_srt.2 r2) HPs.out.2.1
  subst hzy
  have HR := hidP r3
  have HB2 := hidP (HB1.out.trans (hb2.mono HB1.out.size))
  have HQ := hidP HPs.out.2.2
  have HG2 := hidP (r3.lt g2 rfl)
  clear r1 r2 r3 hb2 z1 z2 HO1 HB1 HSo HPs
  go_wp2_with fail
  go_loopw [5, 19] (fun t5 t19 wr => ∃ (a5 : Option Addr) (k5 c5 i : Nat), t5 = .slice a5 k5 c5 ∧ t19 = .int .i64 i ∧ i ≤ n ∧ OwnR 55 wr w2.heap.size (.slice a5 k5 c5) (((zs.take i).foldl joinP []).reverse.map Sp.spn) ∧ Below w2.heap.size w2 wr) (fun _ t19 _ => n - (intOf t19).toNat)
  case atStart => exact ⟨none, 0, 0, 0, rfl, rfl, Nat.zero_le _, own_none _ _ _, Below.refl _ _⟩
  case round =>
    obtain ⟨a5, k5, c5, i, rfl, rfl, hi, ho, hb⟩ := hrel
    have HO := hidP ho
    have HB := hidP hb
    have hfo := fold_okl zs HQ.out.1 i
    have HFo := hidP hfo
    clear ho hb hfo
    by_cases hlt : i < n
    · have hil : i < zs.length := by rw [HQ.out.2]; exact hlt
      obtain ⟨x, hx⟩ : ∃ x, zs[i]? = some x := ⟨_, List.getElem?_eq_getElem hil⟩
      have hxo : x.ok := HQ.out.1 x (List.mem_of_getElem? hx)
      have e : (zs.map Sp.spn)[i]? = some x.spn := by rw [List.getElem?_map, hx]; rfl
      obtain ⟨x0, x1, x2, x3⟩ := (HR.out.later HB.out).atk i x.spn e
      have hgl : g2 < wr.heap.size := Nat.lt_of_lt_of_le HG2.out.2 HB.out.size
      have HX := hidP hx
      have HXo := hidP hxo
      have hin : (i : Int) < (n : Int) := by omega
      change wr.cell? ⟨g2, i * 4, none⟩ = some (.bool x.s) at x0
      change wr.cell? ⟨g2, i * 4 + 1, none⟩ = some (.int .i64 x.H.toInt) at x1
      change wr.cell? ⟨g2, i * 4 + 2, none⟩ = some (.int .i64 x.L.toInt) at x2
      change wr.cell? ⟨g2, i * 4 + 3, none⟩ = some (.int .i64 x.n) at x3
      clear hx hxo e hil
      go_wp2_with fail
      have hba := below_new wr (.cells #[.bool x.s, .int .i64 x.H.toInt, .int .i64 x.L.toInt, .int .i64 x.n] 55)
      have hsz : w2.heap.size ≤ (wr.alloc (.cells #[.bool x.s, .int .i64 x.H.toInt, .int .i64 x.L.toInt, .int .i64 x.n] 55)).heap.size := Nat.le_trans HB.out.size hba.size
      have key := joinLast_any _ x HFo.out.1 HXo.out a5 k5 c5 w2.heap.size (by have := HFo.out.2; omega) _ hsz (HO.out.later hba)
      have HBa := hidP (HB.out.trans (hba.mono HB.out.size))
      have HOa := hidP (HO.out.later hba)
      have HKy := hidP key
      clear key hba x0 x1 x2 x3
      generalize wr.alloc (.cells #[.bool x.s, .int .i64 x.H.toInt, .int .i64 x.L.toInt, .int .i64 x.n] 55) = W3 at *
      refine HKy.out.mono ?_
      rintro e w4 ⟨⟨a6, k6, c6, rfl, hk6, ho6, _⟩, hg6⟩
      have hst : (zs.take (i + 1)).foldl joinP [] = joinP ((zs.take i).foldl joinP []) x := by
        rw [List.take_add_one, HX.out, List.foldl_append]; rfl
      rw [← hst] at ho6
      have HO6 := hidP ho6
      have HB6 := hidP (HBa.out.grown hg6 HBa.out.size (fun k hk => (HOa.out.lt k hk).1))
      clear ho6 hg6 hst hk6 HKy
      go_wp2_with fail
      go_roundw
      case rel => exact ⟨a6, k6, c6, i + 1, rfl, by go_num, by omega, HO6.out, HB6.out⟩
      case measure => simp [intOf]; omega
    · have hin : i = n := by omega
      subst hin
      have htk : zs.take i = zs := List.take_of_length_le (by rw [HQ.out.2]; exact Nat.le_refl _)
      have ho := HO.out
      rw [htk] at ho
      have hk := ho.caps.1
      rw [List.length_map, List.length_reverse] at hk
      have hfo := HFo.out
      rw [htk] at hfo
      have key := prefixesOf_any a5 c5 (collP zs) wr ho.row (fun x hx => (hfo.1 x (List.mem_reverse.1 hx)).le) (by unfold collP; rw [List.length_reverse]; omega)
      have hlc : (collP zs).length = k5 := by unfold collP; rw [List.length_reverse]; exact hk.symm
      rw [hlc] at key
      have HKy := hidP key
      have HLc := hidP hlc
      clear key ho hk hfo htk hlc
      go_wp2_with fail
      refine HKy.out.mono ?_
      rintro e w5 ⟨g5, rfl, o5, hb5⟩
      have HO5 := hidP o5
      have HB5 := hidP ((HB2.out.trans (HB.out.mono HB2.out.size)).trans (hb5.mono (Nat.le_trans HB2.out.size HB.out.size)))
      have hsz : w.heap.size ≤ wr.heap.size := Nat.le_trans HB2.out.size HB.out.size
      clear o5 hb5
      go_wp2_with fail
      go_ret
      rw [HLc.out]
      exact ⟨g5, rfl, OwnR.mono HO5.out hsz, HB5.out⟩

set_option maxRecDepth 10000 in
set_option maxHeartbeats 1000000 in
theorem iColl_no (a : Option Addr) (n cap : Nat) (ps : List Pf) (hn : n = ps.length) (hl : n ≤ 1048576) (hr : rightP ps = false) (w : World) (hB : Row w a ps) :
    Calls Try.prog 8 #[.slice a n cap] w fun e w' => ∃ g, e = .returned (.slice (some ⟨g, 0, none⟩) 0 0) ∧ OwnR 31 w' w.heap.size (.slice (some ⟨g, 0, none⟩) 0 0) [] ∧ Below w.heap.size w w' := by
  have HSp : Hid (Calls Try.prog 28 #[.slice a n cap] w fun e w' => e = .returned (.tuple #[.slice none 0 0, .bool false]) ∧ Below w.heap.size w w') := by
    by_cases h3 : 300 < n
    · exact spansOf_long a n cap w h3 hl
    · subst hn
      refine (spansOf_short a cap ps w hB (by omega)).mono ?_
      rintro e w' ⟨h | h, hb⟩
      · unfold rightP at hr
        rw [h.1, decide_eq_true (show ps.length ≤ 300 by omega)] at hr
        cases hr
      · exact ⟨h.2, hb⟩
  clear hB hr hn
  go_enter Try.func8, Try.ntmps8
  go_wp2_with fail
  refine HSp.out.mono ?_
  rintro e w1 ⟨rfl, hb1⟩
  have HB1 := hidP hb1
  clear hb1
  go_wp2_with fail
  go_ret
  exact ⟨_, rfl, OwnR.mono (own_zero w1 w1.heap.size 31 (Nat.le_refl _)) HB1.out.size, HB1.out.alloc HB1.out.size _⟩

end Go.Proofs.Ytgohffeneibhdaa
