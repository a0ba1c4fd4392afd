/-
  The program's prefixesOf: the prefixes of spans, in a row of the call's own; nothing old in memory turns.
-/
import Derived.Test.YtgohffeneibhdaaPTo
import Derived.Test.YtgohffeneibhdaaPLeft
import Derived.Test.YtgohffeneibhdaaMSH
namespace Go.Proofs.Ytgohffeneibhdaa
open Go.RowKit

theorem copy_pre (xs : List Sp) (k : Nat) (q : Sp) (hk : k < xs.length) (hq : xs[k]? = some q) : ((xs.take k).map Sp.pre ++ List.replicate (xs.length - k) Pf.zero).set k q.pre = (xs.take (k + 1)).map Sp.pre ++ List.replicate (xs.length - (k + 1)) Pf.zero := by
  have h := copy_step (xs.map Sp.pre) k q.pre (by rw [List.length_map]; exact hk) (by rw [List.getElem?_map, hq]; rfl)
  rw [List.length_map] at h
  rw [List.map_take, List.map_take]; exact h

theorem Row.spn {w : World} {a : Option Addr} {xs : List Sp} (h : Row w a (xs.map Sp.spn)) (k : Nat) (hk : k < xs.length) : ∃ p o x, a = some ⟨p, o, none⟩ ∧ p < w.heap.size ∧ xs[k]? = some x ∧
    w.cell? ⟨p, o + k * 4, none⟩ = some (.bool x.s) ∧ w.cell? ⟨p, o + k * 4 + 1, none⟩ = some (.int .i64 x.H.toInt) ∧ w.cell? ⟨p, o + k * 4 + 2, none⟩ = some (.int .i64 x.L.toInt) ∧ w.cell? ⟨p, o + k * 4 + 3, none⟩ = some (.int .i64 (x.n : Int)) := by
  obtain ⟨p, o, q, ha, hp, hq, c0, c1, c2, c3⟩ := h k (by rw [List.length_map]; exact hk)
  rw [List.getElem?_map, List.getElem?_eq_getElem hk] at hq
  cases hq
  exact ⟨p, o, xs[k], ha, hp, List.getElem?_eq_getElem hk, c0, c1, c2, c3⟩
theorem Row.pre {w : World} {a : Option Addr} {xs : List Sp} (h : Row w a (xs.map Sp.pre)) (k : Nat) (hk : k < xs.length) : ∃ p o x, a = some ⟨p, o, none⟩ ∧ p < w.heap.size ∧ xs[k]? = some x ∧
    w.cell? ⟨p, o + k * 4, none⟩ = some (.bool x.s) ∧ w.cell? ⟨p, o + k * 4 + 1, none⟩ = some (.int .i64 x.H.toInt) ∧ w.cell? ⟨p, o + k * 4 + 2, none⟩ = some (.int .i64 x.L.toInt) ∧ w.cell? ⟨p, o + k * 4 + 3, none⟩ = some (.int .i64 ((wd x.s : Int) - (x.n : Int))) := by
  obtain ⟨p, o, q, ha, hp, hq, c0, c1, c2, c3⟩ := h k (by rw [List.length_map]; exact hk)
  rw [List.getElem?_map, List.getElem?_eq_getElem hk] at hq
  cases hq
  exact ⟨p, o, xs[k], ha, hp, List.getElem?_eq_getElem hk, c0, c1, c2, c3⟩

set_option maxRecDepth 10000 in
set_option maxHeartbeats 1000000 in
theorem prefixesOf_any (a : Option Addr) (cap : Nat) (xs : List Sp) (w : World) (hB : Row w a (xs.map Sp.spn)) (hn : ∀ x ∈ xs, x.n ≤ 128) (hl : xs.length ≤ 1048576) :
    Calls Try.prog 32 #[.slice a xs.length cap] w fun e w' => ∃ g, e = .returned (.slice (some ⟨g, 0, none⟩) xs.length xs.length) ∧ OwnR 31 w' w.heap.size (.slice (some ⟨g, 0, none⟩) xs.length xs.length) (xs.map Sp.pre) ∧ Below w.heap.size w w' := by
  obtain ⟨i0, hi, hz0, hz1, hz2⟩ := info_parts Try.fourP.2
  have HB := hidP hB
  have HM := hidP hn
  clear hB hn
  obtain ⟨n, hn⟩ : ∃ n, n = xs.length := ⟨_, rfl⟩
  rw [← hn] at hl ⊢
  have HN := hidP hn
  clear hn
  go_enter Try.func32, Try.ntmps32
  go_wp2_with (refine wpList_make_full _ rfl (.tmp 7) (.tmp 7) 24 rfl w.heap.size 31 i0 _ 4 Try.fourP.1 hi hz0 hz1 .i64 .i64 n n n rfl rfl rfl rfl (by rw [hz2]; omega) (by unfold maxLen; omega) (Nat.le_refl _) ?_; intro w1 hown hgrow)
  have HO : Hid (OwnR 31 w1 w.heap.size (.slice (some ⟨w.heap.size, 0, none⟩) n n) ((xs.take 0).map Sp.pre ++ List.replicate (xs.length - 0) Pf.zero)) := by
    rw [made_four] at hown
    refine hidP ?_
    unfold OwnR
    rw [Nat.sub_zero, List.take_zero, List.map_nil, List.nil_append, List.length_replicate, ← HN.out]; exact hown
  have HW : Hid (Below w.heap.size w w1) := (Below.refl _ w).grown hgrow (Nat.le_refl _) (fun k hk => by cases hk)
  clear hown hgrow
  go_loopw [11] (fun t11 wr => ∃ k : Nat, k ≤ n ∧ t11 = .int .i64 k ∧ OwnR 31 wr w.heap.size (.slice (some ⟨w.heap.size, 0, none⟩) n n) ((xs.take k).map Sp.pre ++ List.replicate (xs.length - k) Pf.zero) ∧ Below w.heap.size w wr) (fun t11 _ => n - (intOf t11).toNat)
  case atStart => exact ⟨0, Nat.zero_le _, rfl, HO.out, HW.out⟩
  case round =>
    obtain ⟨k, hk, rfl, hown, hbel⟩ := hrel
    by_cases hlt : k < n
    · obtain ⟨p, o, q, rfl, hp, hq, c0, c1, c2, c3⟩ := HB.out.spn k (by rw [← HN.out]; exact hlt)
      have d0 := (hbel.cell hp).trans c0
      have d1' := (hbel.cell hp).trans c1
      have d2 := (hbel.cell hp).trans c2
      have d3 := (hbel.cell hp).trans c3
      have hpr : p < wr.heap.size := Nat.lt_of_lt_of_le hp hbel.size
      have HOw := hidP hown
      have HBel := hidP hbel
      have HQ := hidP hq
      have hwr : w.heap.size < wr.heap.size := (OwnR.lt hown _ rfl).2
      have hqn : q.n ≤ 128 := HM.out q (List.mem_of_getElem? hq)
      clear hown hbel c0 c1 c2 c3 hq HO HW
      have hlen : n = ((xs.take k).map Sp.pre ++ List.replicate (xs.length - k) Pf.zero).length := by rw [List.length_append, List.length_map, List.length_take, List.length_replicate]; have := HN.out; omega
      have HLen := hidP hlen
      clear hlen
      go_wp2_with fail
      refine (prefix_any q.s q.H q.L q.n hqn _).mono ?_
      rintro e w2 ⟨rfl, hb2⟩
      have hz2 := hb2.size
      try simp at hz2
      have HB2 := hidP (hb2.mono (show w.heap.size ≤ _ by simp; omega))
      have ho2 := (HOw.out.alloc _).later hb2
      have hw2 : w.heap.size < w2.heap.size := by omega
      have hput := (ho2.put HLen.out k hlt).2 q.pre
      rw [copy_pre xs k q (by rw [← HN.out]; exact hlt) HQ.out] at hput
      have HP : Hid (OwnR 31 ((((w2.setCell ⟨w.heap.size, k * 4, none⟩ (.bool q.s)).setCell ⟨w.heap.size, k * 4 + 1, none⟩ (.int .i64 q.H.toInt)).setCell ⟨w.heap.size, k * 4 + 2, none⟩ (.int .i64 q.L.toInt)).setCell ⟨w.heap.size, k * 4 + 3, none⟩ (.int .i64 ((wd q.s : Int) - (q.n : Int)))) w.heap.size (.slice (some ⟨w.heap.size, 0, none⟩) n n) ((xs.take (k + 1)).map Sp.pre ++ List.replicate (xs.length - (k + 1)) Pf.zero)) := hput
      obtain ⟨f0, f1, f2, f3⟩ := (ho2.put HLen.out k hlt).1
      obtain ⟨p', o', q', e', hp', _, e0, e1, e2, e3⟩ := ho2.row k (by rw [← HLen.out]; exact hlt)
      simp only [Option.some.injEq, Addr.mk.injEq, and_true] at e'
      obtain ⟨rfl, rfl⟩ := e'
      rw [Nat.zero_add] at e0 e1 e2 e3
      clear hb2 ho2 hput d0 d1' d2 d3 HOw
      go_wp2_with fail
      go_roundw
      case rel => exact ⟨k + 1, by omega, by go_num, HP.out, (((((HBel.out.alloc (by omega) _).trans HB2.out).setCell (Nat.le_refl _) _).setCell (Nat.le_refl _) _).setCell (Nat.le_refl _) _).setCell (Nat.le_refl _) _⟩
      case measure => simp [intOf]; omega
    · have hkn : k = n := by omega
      subst hkn
      have HO2 : Hid (OwnR 31 wr w.heap.size (.slice (some ⟨w.heap.size, 0, none⟩) k k) (xs.map Sp.pre)) := by
        have e := HN.out
        rw [e, List.take_length, Nat.sub_self, List.replicate_zero, List.append_nil] at hown
        rw [← e] at hown
        exact hidP hown
      have HBel := hidP hbel
      clear hown hbel HO HW
      go_wp2
      go_ret
      exact ⟨_, rfl, HO2.out, HBel.out⟩

set_option maxHeartbeats 1000000 in
theorem l2Right_any (a : Option Addr) (cap : Nat) (ps : List Pf) (w : World) (hB : Row w a ps) (hl : ps.length ≤ 1048576) :
    Calls Try.prog 33 #[.slice a ps.length cap] w fun e w' => e = .returned (.bool (ps.all (fun p => pokB p.s p.H p.L p.b) && decide (ps.length ≤ 300))) ∧ Below w.heap.size w w' := by
  have HB := hidP hB
  clear hB
  obtain ⟨n, hn⟩ : ∃ n, n = ps.length := ⟨_, rfl⟩
  rw [← hn] at hl ⊢
  have HN := hidP hn
  clear hn
  go_enter Try.func33, Try.ntmps33
  go_wp2
  go_loopw [3] (fun t3 wr => ∃ k : Nat, k ≤ n ∧ t3 = .int .i64 k ∧ (ps.take k).all (fun p => pokB p.s p.H p.L p.b) = true ∧ Below w.heap.size w wr) (fun t3 _ => n - (intOf t3).toNat)
  case atStart => exact ⟨0, Nat.zero_le _, rfl, by simp, Below.refl _ _⟩
  case round =>
    obtain ⟨k, hk, rfl, hall, hbel⟩ := hrel
    have HW := hidP hbel
    have HAll := hidP hall
    by_cases hlt : k < n
    · obtain ⟨p, o, q, rfl, hp, hq, c0, c1, c2, c3⟩ := HB.out k (by rw [← HN.out]; exact hlt)
      have d0 := (hbel.cell hp).trans c0
      have d1 := (hbel.cell hp).trans c1
      have d2 := (hbel.cell hp).trans c2
      have d3 := (hbel.cell hp).trans c3
      have HQ := hidP hq
      clear c0 c1 c2 c3 hq hall hbel
      cases hpk : pokB q.s q.H q.L q.b
      · have HNo : Hid (ps.all (fun p => pokB p.s p.H p.L p.b) = false) := by
          refine hidP ?_
          rw [List.all_eq_false]
          exact ⟨q, List.mem_of_getElem? HQ.out, by rw [hpk]; simp⟩
        go_wp2_with fail
        refine (sPrefixOk_any q.s q.H q.L q.b _).mono ?_
        rw [hpk]
        rintro e w2 ⟨rfl, hb2⟩
        go_wp2_with fail
        go_ret
        rw [HNo.out]
        exact ⟨rfl, HW.out.trans (hb2.mono HW.out.size)⟩
      · have HAll2 : Hid ((ps.take (k + 1)).all (fun p => pokB p.s p.H p.L p.b) = true) := by
          refine hidP ?_
          rw [List.take_add_one, HQ.out, List.all_append, HAll.out]
          simp [hpk]
        go_wp2_with fail
        refine (sPrefixOk_any q.s q.H q.L q.b _).mono ?_
        rw [hpk]
        rintro e w2 ⟨rfl, hb2⟩
        have HW2 := hidP (HW.out.trans (hb2.mono HW.out.size))
        clear hb2
        go_wp2_with fail
        go_roundw
        case rel => exact ⟨k + 1, by omega, by go_num, HAll2.out, HW2.out⟩
        case measure => simp [intOf]; omega
    · have hkn : k = n := by omega
      subst hkn
      have HE : Hid (ps.all (fun p => pokB p.s p.H p.L p.b) = true) := by
        refine hidP ?_
        rw [HN.out, List.take_length] at hall; exact hall
      clear hbel hall
      go_wp2
      go_ret
      rw [HE.out]
      exact ⟨by go_num, HW.out⟩

end Go.Proofs.Ytgohffeneibhdaa
