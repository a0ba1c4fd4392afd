/-
  The laws' copies of a message's lists, looks at them and their sizes.
-/
import Derived.Test.YtamaanbnlnpjcaaV14R
namespace Go.Proofs.Ytamaanbnlnpjcaa
open Go.ChangeShapes Go.WideShapes Go.ChangeAt Go.RowKit Go.Joins Go.Deep

/-- What is left of L behind N. -/
def szR (L N : Int) : Int := if N ≤ L then L - N else -1
theorem szR_yes {L N : Int} (h : N ≤ L) : szR L N = L - N := if_pos h
theorem szR_no {L N : Int} (h : ¬ N ≤ L) : szR L N = -1 := if_neg h

set_option maxHeartbeats 1000000 in
theorem szByteS_at (a : Option Addr) (n c : Nat) (L : Int) (h0 : 0 ≤ L) (h1 : L ≤ 1048576) (w : World) (h9 : n ≤ 9223372036854775807) :
    Calls Try.prog 45 #[.slice a n c, .int .i64 L] w fun e w' => e = .returned (.int .i64 (szR L n)) ∧ Below w.heap.size w w' := by
  by_cases ht : (n : Int) ≤ L
  · rw [szR_yes ht]
    have d1 : decide (L - (n : Int) < 0) = false := decide_eq_false (by omega)
    have d2 : ¬ (L - (n : Int) < 0) := by omega
    go_enter Try.func45, Try.ntmps45
    go_wp2
    go_ret
    exact ⟨rfl, Below.refl _ _⟩
  · rw [szR_no ht]
    have d1 : decide (L - (n : Int) < 0) = true := decide_eq_true (by omega)
    go_enter Try.func45, Try.ntmps45
    go_wp2
    go_ret
    exact ⟨rfl, Below.refl _ _⟩

set_option maxHeartbeats 1000000 in
theorem szEntry_at (a : Option Addr) (n c : Nat) (T N : Int) (L : Int) (h0 : 0 ≤ L) (h1 : L ≤ 1048576) (w : World) (h9 : n ≤ 9223372036854775807) :
    Calls Try.prog 82 #[.agg #[.int .i64 T, .int .i64 N, .slice a n c], .int .i64 L] w fun e w' => e = .returned (.int .i64 (szR L n)) ∧ Below w.heap.size w w' := by
  have HS := hidP (fun W => szByteS_at a n c L h0 h1 W h9)
  by_cases ht : (n : Int) ≤ L
  · rw [szR_yes ht] at HS ⊢
    have d1 : decide (L - (n : Int) < 0) = false := decide_eq_false (by omega)
    have d2 : ¬ (L - (n : Int) < 0) := by omega
    generalize (L - (n : Int)) = z at *
    go_enter Try.func82, Try.ntmps82
    go_wp2_with fail
    refine (HS.out _).mono ?_
    rintro e w2 ⟨rfl, hb2⟩
    have HB2 := hidP hb2
    clear hb2
    go_wp2_with fail
    go_ret
    exact ⟨rfl, (alloc_below w _).trans (HB2.out.mono (alloc_below w _).size)⟩
  · rw [szR_no ht] at HS ⊢
    have d1 : decide (L - (n : Int) < 0) = true := decide_eq_true (by omega)
    go_enter Try.func82, Try.ntmps82
    go_wp2_with fail
    refine (HS.out _).mono ?_
    rintro e w2 ⟨rfl, hb2⟩
    have HB2 := hidP hb2
    clear hb2
    go_wp2_with fail
    go_ret
    exact ⟨rfl, (alloc_below w _).trans (HB2.out.mono (alloc_below w _).size)⟩

/-- All their bytes. -/
def sumE : List En → Int
  | [] => 0
  | e :: t => e.n + sumE t
theorem sumE_nn : ∀ es : List En, 0 ≤ sumE es
  | [] => Int.le_refl _
  | e :: t => by have := sumE_nn t; unfold sumE; omega
theorem szR_step {L n m : Int} (hm : 0 ≤ m) : szR L (n + m) = if n ≤ L then szR (L - n) m else -1 := by
  unfold szR
  split <;> split <;> (try split) <;> omega

set_option maxRecDepth 10000 in
set_option maxHeartbeats 4000000 in
theorem szEntryS_at (a : Option Addr) (n c : Nat) (es : List En) (L : Int) (h0 : 0 ≤ L) (h1 : L ≤ 1048576) (w : World) (hn : n = es.length) (hR : RowG KEn w a es) (h9 : n ≤ 9223372036854775807) (hd : ∀ e ∈ es, e.n ≤ 9223372036854775807) :
    Calls Try.prog 46 #[.slice a n c, .int .i64 L] w fun e w' => e = .returned (.int .i64 (szR L ((n : Int) + sumE es))) ∧ Below w.heap.size w w' := by
  rw [szR_step (sumE_nn es)]
  have HR := hidP hR
  have HN := hidP hn
  have HD := hidP hd
  clear hR hn hd
  by_cases ht : (n : Int) ≤ L
  · rw [if_pos ht]
    have d1 : decide (L - (n : Int) < 0) = false := decide_eq_false (by omega)
    have d2 : ¬ (L - (n : Int) < 0) := by omega
    have d3 : 0 ≤ L - (n : Int) := by omega
    have d4 : L - (n : Int) ≤ 1048576 := by omega
    have d5 : (n : Int) ≤ 1048576 := by omega
    go_enter Try.func46, Try.ntmps46
    go_wp2_with fail
    generalize hL : (L - (n : Int)) = M at *
    have HLe := hidP hL
    clear hL ht h0 h1
    go_loopw [1, 5] (fun t1 t5 wr => ∃ (i : Nat) (l : Int), i ≤ n ∧ t5 = .int .i64 i ∧ t1 = .int .i64 l ∧ 0 ≤ l ∧ l ≤ 1048576 ∧ szR l (sumE (es.drop i)) = szR M (sumE es) ∧ Below w.heap.size w wr) (fun _ t5 _ => n - (intOf t5).toNat)
    case atStart => exact ⟨0, M, Nat.zero_le _, rfl, rfl, d3, d4, rfl, Below.refl _ _⟩
    case round =>
      obtain ⟨i, l, hin, rfl, rfl, l0, l1, hs, hbr⟩ := hrel
      have HB := hidP hbr
      by_cases hlt : i < n
      · obtain ⟨p, o, e, rfl, hp, he, c0, c1, c2⟩ := rowEn HR.out i (by have := HN.out; omega)
        rw [dropE he] at hs
        have hs2 : szR l ((e.n : Int) + sumE (es.drop (i + 1))) = szR M (sumE es) := hs
        rw [szR_step (sumE_nn _)] at hs2
        have HE := hidP (fun W => szEntry_at e.a e.n e.c e.T e.K l l0 l1 W (HD.out e (List.mem_of_getElem? he)))
        have x0 := (hbr.cell hp).trans c0
        have x1 := (hbr.cell hp).trans c1
        have x2 := (hbr.cell hp).trans c2
        have i0 : (0 : Int) ≤ (i : Int) := by omega
        have i1 : (i : Int) < (n : Int) := by omega
        clear c0 c1 c2 hs hbr he hp
        by_cases hl : (e.n : Int) ≤ l
        · rw [szR_yes hl] at HE
          rw [if_pos hl] at hs2
          have HS := hidP hs2
          have z1 : decide (l - (e.n : Int) < 0) = false := decide_eq_false (by omega)
          have z2 : ¬ (l - (e.n : Int) < 0) := by omega
          have z3 : 0 ≤ l - (e.n : Int) := by omega
          have z4 : l - (e.n : Int) ≤ 1048576 := by omega
          clear hs2
          generalize (l - (e.n : Int)) = m at *
          go_wp2_with fail
          refine (HE.out _).mono ?_
          rintro x w3 ⟨rfl, hb3⟩
          have HF := hidP (HB.out.trans (hb3.mono HB.out.size))
          clear hb3
          go_wp2_with fail
          go_roundw
          case rel => exact ⟨i + 1, m, by omega, by go_num, rfl, z3, z4, HS.out, HF.out⟩
          case measure => simp [intOf]; omega
        · rw [szR_no hl] at HE
          rw [if_neg hl] at hs2
          have HS := hidP hs2
          clear hs2
          go_wp2_with fail
          refine (HE.out _).mono ?_
          rintro x w3 ⟨rfl, hb3⟩
          have HF := hidP (HB.out.trans (hb3.mono HB.out.size))
          clear hb3
          go_wp2_with fail
          go_ret
          exact ⟨congrArg (fun x => Ending.returned (.int .i64 x)) (HS.out.trans (by rw [HLe.out])), HF.out⟩
      · have hiE : i = n := by omega
        subst hiE
        rw [List.drop_of_length_le (by have := HN.out; omega)] at hs
        have HS := hidP hs
        clear hs hbr
        go_wp2_with fail
        go_ret
        have hl9 : l = szR M (sumE es) := by
          rw [← HS.out, szR_yes (by unfold sumE; exact l0)]
          unfold sumE
          omega
        exact ⟨congrArg (fun x => Ending.returned (.int .i64 x)) (hl9.trans (by rw [HLe.out])), HB.out⟩
  · rw [if_neg ht]
    have d1 : decide (L - (n : Int) < 0) = true := decide_eq_true (by omega)
    go_enter Try.func46, Try.ntmps46
    go_wp2_with fail
    go_ret
    exact ⟨rfl, Below.refl _ _⟩

set_option maxRecDepth 10000 in
set_option maxHeartbeats 4000000 in
theorem toEntryS_any (a : Option Addr) (n cap : Nat) (es : List En) (w : World) (hn : n = es.length) (hB : RowG KEn w a es) (hD : ∀ e ∈ es, DatR w e) (hl : n ≤ 1048576) (hz : ∀ e ∈ es, e.n ≤ 1048576) :
    Calls Try.prog 52 #[.slice a n cap] w fun e w' => ∃ g fs, e = .returned (.slice (some ⟨g, 0, none⟩) n n) ∧ n = fs.length ∧ fs.map En.key = es.map En.key ∧ OwnG KEn 69 w' w.heap.size (.slice (some ⟨g, 0, none⟩) n n) fs ∧ (∀ e ∈ fs, EnO w' w.heap.size g e ∧ EnF e) ∧ Below w.heap.size w w' := by
  obtain ⟨i0, hi, hz0, hz1, hz2⟩ := info_parts Try.tyEn.2.1
  have HB := hidP hB
  have HD := hidP (And.intro hD hz)
  have HN := hidP hn
  clear hB hn hD hz
  go_enter Try.func52, Try.ntmps52
  go_wp2_with (refine wpList_make_full _ rfl (.tmp 6) (.tmp 6) 27 rfl w.heap.size 69 i0 _ 3 Try.tyEn.1 hi hz0 hz1 .i64 .i64 n n n rfl rfl rfl rfl (by rw [hz2]; omega) (by unfold maxLen; omega) (Nat.le_refl _) ?_; intro w1 hown hgrow)
  have HO : Hid (OwnG KEn 69 w1 w.heap.size (.slice (some ⟨w.heap.size, 0, none⟩) n n) ([] ++ List.replicate (n - 0) En.zero)) := by
    have hm := made_gen KEn En.zero (by show 0 < 3; omega) (.agg #[.int .i64 0, .int .i64 0, .slice none 0 0]) rfl n
    rw [show n * 3 = n * KEn.k from rfl, hm] at hown
    refine hidP ?_
    unfold OwnG
    rw [Nat.sub_zero, List.nil_append, List.length_replicate]; exact hown
  have HW : Hid (Below w.heap.size w w1) := (Below.refl _ w).grown hgrow (Nat.le_refl _) (fun k hk => by cases hk)
  clear hown hgrow
  go_loopw [4] (fun t4 wr => ∃ fs : List En, fs.length ≤ n ∧ t4 = .int .i64 fs.length ∧ fs.map En.key = (es.take fs.length).map En.key ∧ OwnG KEn 69 wr w.heap.size (.slice (some ⟨w.heap.size, 0, none⟩) n n) (fs ++ List.replicate (n - fs.length) En.zero) ∧ (∀ e ∈ fs, EnO wr w.heap.size w.heap.size e ∧ EnF e) ∧ Below w.heap.size w wr) (fun t4 _ => n - (intOf t4).toNat)
  case atStart => exact ⟨[], Nat.zero_le _, rfl, rfl, HO.out, (fun e he => by cases he), HW.out⟩
  case round =>
    obtain ⟨fs, hk, rfl, hke, hown, hfs, hbel⟩ := hrel
    have HK := hidP hke
    generalize hkk : fs.length = k at *
    have HKK := hidP hkk
    clear hke hkk
    by_cases hlt : k < n
    · obtain ⟨p, o, q, rfl, hp, hq, c0, c1, c2⟩ := rowEn HB.out k (by rw [← HN.out]; exact hlt)
      have d0 := (hbel.cell hp).trans c0
      have d1 := (hbel.cell hp).trans c1
      have d2 := (hbel.cell hp).trans c2
      have hqm := List.mem_of_getElem? hq
      have hdq := (HD.out.1 q hqm).later hbel
      have HT := hidP (toEntry_any q.a q.n q.c q.T q.K q.zs wr hdq.1 hdq.2.2 (HD.out.2 q hqm))
      have HOc := hidP (And.intro hdq.1 hdq.2.1)
      have HOw := hidP (And.intro hown hfs)
      have HBel := hidP hbel
      have HQ := hidP hq
      clear hown hbel c0 c1 c2 hq HO HW hfs hdq hqm
      go_wp2_with fail
      refine HT.out.mono ?_
      rintro e w2 ⟨g, rfl, og, hb2⟩
      have ho2 := HOw.out.1.later hb2
      have hlt2 := HOw.out.1.lt w.heap.size rfl
      have hge : wr.heap.size ≤ g := (og.lt g rfl).1
      have hQe : EnO w2 w.heap.size w.heap.size ⟨q.T, q.K, some ⟨g, 0, none⟩, q.n, q.n, q.zs⟩ := ⟨HOc.out.1, HOc.out.2, og.mono HBel.out.size, fun k hk => by
        have : g = k := Option.some.inj hk
        omega⟩
      have hE2 : ∀ e ∈ fs ++ [⟨q.T, q.K, some ⟨g, 0, none⟩, q.n, q.n, q.zs⟩], EnO w2 w.heap.size w.heap.size e ∧ EnF e := fun e he => by
        rcases List.mem_append.1 he with he | he
        · exact ⟨(HOw.out.2 e he).1.later hb2, (HOw.out.2 e he).2⟩
        · rw [List.mem_singleton.1 he]; exact ⟨hQe, ⟨g, rfl⟩, rfl⟩
      have hlen : n = (fs ++ List.replicate (n - k) En.zero).length := by rw [List.length_append, List.length_replicate, HKK.out]; omega
      obtain ⟨f0, f1, f2⟩ := frzEn ho2 k
      have hput' := putEn ho2 hlen k hlt ⟨q.T, q.K, some ⟨g, 0, none⟩, q.n, q.n, q.zs⟩
      rw [show n - k = (n - (k + 1)) + 1 by omega, ← HKK.out, set_lastE, HKK.out] at hput'
      have HP := hidP (And.intro hput' hE2)
      obtain ⟨q', hp', _, e0, e1, e2⟩ := rowEn0 ho2 k (by rw [← hlen]; exact hlt)
      have HBel2 := hidP (HBel.out.trans (hb2.mono HBel.out.size))
      clear hput' hE2 hQe ho2 hb2 HBel HOw d0 d1 d2 hlen og hge hlt2
      go_wp2_with fail
      go_roundw
      case rel =>
        refine ⟨fs ++ [⟨q.T, q.K, some ⟨g, 0, none⟩, q.n, q.n, q.zs⟩], by rw [List.length_append, HKK.out]; show k + 1 ≤ n; omega, by rw [List.length_append, HKK.out]; go_num, ?_, ?_, ?_, ((HBel2.out.setCell (Nat.le_refl _) _).setCell (Nat.le_refl _) _).setCell (Nat.le_refl _) _⟩
        · rw [List.length_append, HKK.out, List.map_append, HK.out]
          show _ = (es.take (k + 1)).map En.key
          rw [List.take_add_one, HQ.out, List.map_append]
          rfl
        · rw [List.length_append, HKK.out]; exact HP.out.1
        · exact fun e he => ⟨(((HP.out.2 e he).1.set _ _).set _ _).set _ _, (HP.out.2 e he).2⟩
      case measure => simp [intOf]; omega
    · have hkn : k = n := by omega
      subst hkn
      have HO2 : Hid (OwnG KEn 69 wr w.heap.size (.slice (some ⟨w.heap.size, 0, none⟩) k k) fs) := by
        rw [Nat.sub_self, List.replicate_zero, List.append_nil] at hown
        exact hidP hown
      have HBel : Hid (Below w.heap.size w wr) := hbel
      have HF := hidP hfs
      clear hown hbel HO HW hfs
      go_wp2
      go_ret
      refine ⟨_, fs, rfl, HKK.out.symm, ?_, HO2.out, HF.out, HBel.out⟩
      have := HK.out
      rw [HN.out, List.take_length] at this
      exact this

set_option maxRecDepth 10000 in
set_option maxHeartbeats 4000000 in
theorem eqEntryS_same (a b : Option Addr) (n c d : Nat) (es fs : List En) (w : World) (hn : n = es.length) (hk : fs.map En.key = es.map En.key) (ha : RowG KEn w a es) (hb : RowG KEn w b fs) (hA : ∀ e ∈ es, DatR w e) (hB : ∀ e ∈ fs, DatR w e) (hl : n ≤ 1048576) (hz : ∀ e ∈ es, e.n ≤ 1048576) :
    Calls Try.prog 54 #[.slice a n c, .slice b n d] w fun e w' => e = .returned (.bool true) ∧ Below w.heap.size w w' := by
  have hnf : n = fs.length := by have := congrArg List.length hk; rw [List.length_map, List.length_map] at this; omega
  have HA := hidP (And.intro ha (And.intro hA hz))
  have HB := hidP (And.intro hb hB)
  have HN := hidP (And.intro hn hnf)
  have HK := hidP hk
  clear ha hb hn hnf hA hB hz hk
  go_enter Try.func54, Try.ntmps54
  go_wp2
  go_loopw [5] (fun t5 wr => ∃ k : Nat, k ≤ n ∧ t5 = .int .i64 k ∧ Below w.heap.size w wr) (fun t5 _ => n - (intOf t5).toNat)
  case atStart => exact ⟨0, Nat.zero_le _, rfl, Below.refl _ _⟩
  case round =>
    obtain ⟨k, hk, rfl, hbel⟩ := hrel
    have HW := hidP hbel
    by_cases hlt : k < n
    · obtain ⟨p, o, q, rfl, hp, hq, c0, c1, c2⟩ := rowEn HA.out.1 k (by rw [← HN.out.1]; exact hlt)
      obtain ⟨p', o', f, rfl, hp', hf, d0, d1, d2⟩ := rowEn HB.out.1 k (by rw [← HN.out.2]; exact hlt)
      have hkey : f.key = q.key := by
        have := congrArg (fun l => l[k]?) HK.out
        simp only [List.getElem?_map, hq, hf, Option.map_some, Option.some.injEq] at this
        exact this
      unfold En.key at hkey
      simp only [Prod.mk.injEq] at hkey
      obtain ⟨k1, k2, k3, k4⟩ := hkey
      have hDq := HA.out.2.1 q (List.mem_of_getElem? hq)
      have hDf := HB.out.2 f (List.mem_of_getElem? hf)
      have hzq := HA.out.2.2 q (List.mem_of_getElem? hq)
      have HE := hidP (fun W (hb : Below w.heap.size w W) => eqEntry_same q.a f.a q.n q.c f.c q.T q.K q.zs W hDq.1 (hDq.later hb).2.2 (by have := (hDf.later hb).2.2; rw [k4] at this; exact this) (by omega))
      rw [k1] at d0
      rw [k2] at d1
      rw [k3] at d2
      have z0 := (hbel.cell hp).trans c0
      have z1 := (hbel.cell hp).trans c1
      have z2 := (hbel.cell hp).trans c2
      have y0 := (hbel.cell hp').trans d0
      have y1 := (hbel.cell hp').trans d1
      have y2 := (hbel.cell hp').trans d2
      have j0 : (0 : Int) ≤ (k : Int) := by omega
      have j1 : (k : Int) < (n : Int) := by omega
      clear c0 c1 c2 d0 d1 d2 hq hf hbel hDq hDf hzq k1 k2 k3 k4
      go_wp2_with fail
      go_region_with (first | (go_at_call 87; refine (HE.out _ HW.out.drew).mono ?_; rintro e w2 ⟨rfl, hb2⟩))
      all_goals
        have HF := hidP (HW.out.drew.trans (hb2.mono HW.out.drew.size))
        clear hb2
        go_wp2_with fail
        go_roundw
        case rel => exact ⟨k + 1, by omega, by go_num, HF.out⟩
        case measure => simp [intOf]; omega
    · have hkn : k = n := by omega
      subst hkn
      clear hbel
      go_wp2_with fail
      go_ret
      exact ⟨rfl, HW.out⟩

end Go.Proofs.Ytamaanbnlnpjcaa
