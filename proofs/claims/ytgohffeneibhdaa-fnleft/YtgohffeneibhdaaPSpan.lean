/-
  The program's spansOf: of at most 300 right prefixes their spans, else none; nothing old in memory turns.
-/
import Derived.Test.YtgohffeneibhdaaPTo
import Derived.Test.YtgohffeneibhdaaMPok
namespace Go.Proofs.Ytgohffeneibhdaa
open Go.RowKit

theorem Try.fourS : Four Try.prog 50 55 := ⟨Try.underlying50, by kernel_rfl⟩

def Pf.pok (p : Pf) : Bool := pokB p.s p.H p.L p.b
def Pf.sp (p : Pf) : Pf := ⟨p.s, p.H, p.L, (wd p.s : Int) - p.b⟩
def rightP (ps : List Pf) : Bool := ps.all Pf.pok && decide (ps.length ≤ 300)

theorem copy_sp (ps : List Pf) (k : Nat) (q : Pf) (hk : k < ps.length) (hq : ps[k]? = some q) : ((ps.take k).map Pf.sp ++ List.replicate (ps.length - k) Pf.zero).set k q.sp = (ps.take (k + 1)).map Pf.sp ++ List.replicate (ps.length - (k + 1)) Pf.zero := by
  have h := copy_step (ps.map Pf.sp) k q.sp (by rw [List.length_map]; exact hk) (by rw [List.getElem?_map, hq]; rfl)
  rw [List.length_map] at h
  rw [List.map_take, List.map_take]; exact h

set_option maxHeartbeats 1000000 in
theorem spansOf_long (a : Option Addr) (n cap : Nat) (w : World) (hl : 300 < n) (hl' : n ≤ 1048576) :
    Calls Try.prog 28 #[.slice a n cap] w fun e w' => e = .returned (.tuple #[.slice none 0 0, .bool false]) ∧ Below w.heap.size w w' := by
  go_enter Try.func28, Try.ntmps28
  go_wp2
  go_ret2
  exact ⟨rfl, Below.refl _ _⟩

set_option maxRecDepth 10000 in
set_option maxHeartbeats 1000000 in
theorem spansOf_short (a : Option Addr) (cap : Nat) (ps : List Pf) (w : World) (hB : Row w a ps) (hl : ps.length ≤ 300) :
    Calls Try.prog 28 #[.slice a ps.length cap] w fun e w' => ((ps.all Pf.pok = true ∧ ∃ g, e = .returned (.tuple #[.slice (some ⟨g, 0, none⟩) ps.length ps.length, .bool true]) ∧ OwnR 55 w' w.heap.size (.slice (some ⟨g, 0, none⟩) ps.length ps.length) (ps.map Pf.sp)) ∨ (ps.all Pf.pok = false ∧ e = .returned (.tuple #[.slice none 0 0, .bool false]))) ∧ Below w.heap.size w w' := by
  obtain ⟨i0, hi, hz0, hz1, hz2⟩ := info_parts Try.fourS.2
  have HB := hidP hB
  clear hB
  obtain ⟨n, hn⟩ : ∃ n, n = ps.length := ⟨_, rfl⟩
  rw [← hn] at hl ⊢
  have HN := hidP hn
  clear hn
  go_enter Try.func28, Try.ntmps28
  have d1 : decide ((300 : Int) < (n : Int)) = false := decide_eq_false (by omega)
  go_wp2_with (refine wpList_make_full _ rfl (.tmp 13) (.tmp 13) 50 rfl w.heap.size 55 i0 _ 4 Try.fourS.1 hi hz0 hz1 .i64 .i64 n n n rfl rfl rfl rfl (by rw [hz2]; omega) (by unfold maxLen; omega) (Nat.le_refl _) ?_; intro w1 hown hgrow)
  have HO : Hid (OwnR 55 w1 w.heap.size (.slice (some ⟨w.heap.size, 0, none⟩) n n) ((ps.take 0).map Pf.sp ++ List.replicate (ps.length - 0) Pf.zero)) := by
    rw [made_four] at hown
    refine hidP ?_
    unfold OwnR
    rw [Nat.sub_zero, List.take_zero, List.map_nil, List.nil_append, List.length_replicate, ← HN.out]; exact hown
  have HW : Hid (Below w.heap.size w w1) := (Below.refl _ w).grown hgrow (Nat.le_refl _) (fun k hk => by cases hk)
  clear hown hgrow
  go_loopw [17] (fun t17 wr => ∃ k : Nat, k ≤ n ∧ t17 = .int .i64 k ∧ (ps.take k).all Pf.pok = true ∧ OwnR 55 wr w.heap.size (.slice (some ⟨w.heap.size, 0, none⟩) n n) ((ps.take k).map Pf.sp ++ List.replicate (ps.length - k) Pf.zero) ∧ Below w.heap.size w wr) (fun t17 _ => n - (intOf t17).toNat)
  case atStart => exact ⟨0, Nat.zero_le _, rfl, by simp, HO.out, HW.out⟩
  case round =>
    obtain ⟨k, hk, rfl, hall, hown, hbel⟩ := hrel
    by_cases hlt : k < n
    · obtain ⟨p, o, q, rfl, hp, hq, c0, c1, c2, c3⟩ := HB.out k (by rw [← HN.out]; exact hlt)
      have d0 := (hbel.cell hp).trans c0
      have d1' := (hbel.cell hp).trans c1
      have d2 := (hbel.cell hp).trans c2
      have d3 := (hbel.cell hp).trans c3
      have hpr : p < wr.heap.size := Nat.lt_of_lt_of_le hp hbel.size
      have HOw := hidP hown
      have HBel := hidP hbel
      have HQ := hidP hq
      have HAll := hidP hall
      have hwr : w.heap.size < wr.heap.size := (OwnR.lt hown _ rfl).2
      clear hown hbel c0 c1 c2 c3 hq hall HO HW
      have hlen : n = ((ps.take k).map Pf.sp ++ List.replicate (ps.length - k) Pf.zero).length := by rw [List.length_append, List.length_map, List.length_take, List.length_replicate]; have := HN.out; omega
      have HLen := hidP hlen
      clear hlen
      cases hpk : pokB q.s q.H q.L q.b
      · have HNo : Hid (ps.all Pf.pok = false) := by
          refine hidP ?_
          rw [List.all_eq_false]
          exact ⟨q, List.mem_of_getElem? HQ.out, by show ¬ pokB q.s q.H q.L q.b = true; rw [hpk]; simp⟩
        go_wp2_with fail
        refine (spanOf_no q.s q.H q.L q.b hpk _).mono ?_
        rintro e w2 ⟨rfl, hb2⟩
        have hz2 := hb2.size
        try simp at hz2
        have HB2 := hidP (hb2.mono (show w.heap.size ≤ _ by simp; omega))
        clear hb2
        go_wp2_with fail
        go_ret2
        exact ⟨Or.inr ⟨HNo.out, rfl⟩, ((HBel.out.alloc (by omega) _).trans HB2.out).alloc (by omega) _⟩
      · obtain ⟨m, hm⟩ : ∃ m : Nat, (m : Int) = (wd q.s : Int) - q.b := ⟨((wd q.s : Int) - q.b).toNat, by have := (pokB_parts hpk).2.1; omega⟩
        go_wp2_with fail
        refine (spanOf_yes q.s q.H q.L q.b m hm hpk _).mono ?_
        rintro e w2 ⟨rfl, hb2⟩
        have hz2 := hb2.size
        try simp at hz2
        have HB2 := hidP (hb2.mono (show w.heap.size ≤ _ by simp; omega))
        have ho2 := (HOw.out.alloc _).later hb2
        have hw2 : w.heap.size < w2.heap.size := by omega
        have hput := (ho2.put HLen.out k hlt).2 q.sp
        rw [copy_sp ps k q (by rw [← HN.out]; exact hlt) HQ.out] at hput
        have HP : Hid (OwnR 55 ((((w2.setCell ⟨w.heap.size, k * 4, none⟩ (.bool q.s)).setCell ⟨w.heap.size, k * 4 + 1, none⟩ (.int .i64 q.H.toInt)).setCell ⟨w.heap.size, k * 4 + 2, none⟩ (.int .i64 q.L.toInt)).setCell ⟨w.heap.size, k * 4 + 3, none⟩ (.int .i64 ((wd q.s : Int) - q.b))) w.heap.size (.slice (some ⟨w.heap.size, 0, none⟩) n n) ((ps.take (k + 1)).map Pf.sp ++ List.replicate (ps.length - (k + 1)) Pf.zero)) := hput
        obtain ⟨f0, f1, f2, f3⟩ := (ho2.put HLen.out k hlt).1
        obtain ⟨p', o', q', e', hp', _, e0, e1, e2, e3⟩ := ho2.row k (by rw [← HLen.out]; exact hlt)
        simp only [Option.some.injEq, Addr.mk.injEq, and_true] at e'
        obtain ⟨rfl, rfl⟩ := e'
        rw [Nat.zero_add] at e0 e1 e2 e3
        have HAll2 : Hid ((ps.take (k + 1)).all Pf.pok = true) := by
          refine hidP ?_
          rw [List.take_add_one, HQ.out, List.all_append, HAll.out]
          simp [Pf.pok, hpk]
        clear hb2 ho2 hput d0 d1' d2 d3 HOw
        go_wp2_with fail
        go_roundw
        case rel =>
          refine ⟨k + 1, by omega, by go_num, HAll2.out, ?_, ?_⟩
          · exact HP.out.alloc _
          · exact ((((((HBel.out.alloc (by omega) _).trans HB2.out).setCell (Nat.le_refl _) _).setCell (Nat.le_refl _) _).setCell (Nat.le_refl _) _).setCell (Nat.le_refl _) _).alloc (by simp; omega) _
        case measure => simp [intOf]; omega
    · have hkn : k = n := by omega
      subst hkn
      have HO2 : Hid (ps.all Pf.pok = true ∧ OwnR 55 wr w.heap.size (.slice (some ⟨w.heap.size, 0, none⟩) k k) (ps.map Pf.sp)) := by
        have e := HN.out
        rw [e, List.take_length, Nat.sub_self, List.replicate_zero, List.append_nil] at hown
        rw [e, List.take_length] at hall
        rw [← e] at hown
        exact hidP ⟨hall, hown⟩
      have HBel := hidP hbel
      clear hown hbel hall HO HW
      go_wp2
      go_ret2
      exact ⟨Or.inl ⟨HO2.out.1, _, rfl, HO2.out.2⟩, HBel.out⟩

end Go.Proofs.Ytgohffeneibhdaa
