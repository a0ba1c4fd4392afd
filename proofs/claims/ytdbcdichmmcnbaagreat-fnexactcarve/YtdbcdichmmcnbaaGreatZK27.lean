/-
  The program's spansOf: of at most 300 right prefixes their spans, else none; nothing old in memory turns.
-/
import Derived.Test.YtdbcdichmmcnbaaGreatZK14
import Derived.Test.YtdbcdichmmcnbaaGreatZK7
import Derived.Test.YtdbcdichmmcnbaaGreatZK26
import Derived.Test.YtdbcdichmmcnbaaGreatZK25
import Derived.Test.YtdbcdichmmcnbaaGreatZK3
import Derived.Deep.RegionWith
import Derived.Deep.DeepCutAuto
namespace Go.Proofs.YtdbcdichmmcnbaaGreat
open Go.RowKit

theorem Tryz.fourS : Four Tryz.prog 186 96 := ⟨Tryz.underlying186, by kernel_rfl⟩

def Pf.pok (p : Pf) : Bool := pokB p.s p.H p.L p.b
def Pf.sp (p : Pf) : Pf := ⟨p.s, p.H, p.L, (wd p.s : Int) - p.b⟩
def rightP (ps : List Pf) : Bool := ps.all Pf.pok && decide (ps.length ≤ 300)

theorem copy_sp (ps : List Pf) (k : Nat) (q : Pf) (hk : k < ps.length) (hq : ps[k]? = some q) : ((ps.take k).map Pf.sp ++ List.replicate (ps.length - k) Pf.zero).set k q.sp = (ps.take (k + 1)).map Pf.sp ++ List.replicate (ps.length - (k + 1)) Pf.zero := by
  have h := copy_step (ps.map Pf.sp) k q.sp (by rw [List.length_map]; exact hk) (by rw [List.getElem?_map, hq]; rfl)
  rw [List.length_map] at h
  rw [List.map_take, List.map_take]; exact h

set_option maxRecDepth 10000 in
set_option maxHeartbeats 1000000 in
theorem spansOf_short (a : Option Addr) (cap : Nat) (ps : List Pf) (w : World) (hB : Row w a ps) (hl : ps.length ≤ 300) :
    Calls Tryz.prog 145 #[.slice a ps.length cap] w fun e w' => ((ps.all Pf.pok = true ∧ ∃ g, e = .returned (.tuple #[.slice (some ⟨g, 0, none⟩) ps.length ps.length, .bool true]) ∧ OwnR 96 w' w.heap.size (.slice (some ⟨g, 0, none⟩) ps.length ps.length) (ps.map Pf.sp)) ∨ (ps.all Pf.pok = false ∧ e = .returned (.tuple #[.slice none 0 0, .bool false]))) ∧ Below w.heap.size w w' := by
  obtain ⟨i0, hi, hz0, hz1, hz2⟩ := info_parts Tryz.fourS.2
  have HB := hidP hB
  clear hB
  obtain ⟨n, hn⟩ : ∃ n, n = ps.length := ⟨_, rfl⟩
  rw [← hn] at hl ⊢
  have HN := hidP hn
  clear hn
  go_enter Tryz.func145, Tryz.ntmps145
  have d1 : decide ((300 : Int) < (n : Int)) = false := decide_eq_false (by omega)
  go_wp2_with (refine wpList_make_full _ rfl (.tmp 13) (.tmp 13) 186 rfl w.heap.size 96 i0 _ 4 Tryz.fourS.1 hi hz0 hz1 .i64 .i64 n n n rfl rfl rfl rfl (by rw [hz2]; omega) (by unfold maxLen; omega) (Nat.le_refl _) ?_; intro w1 hown hgrow)
  have HO : Hid (OwnR 96 w1 w.heap.size (.slice (some ⟨w.heap.size, 0, none⟩) n n) ((ps.take 0).map Pf.sp ++ List.replicate (ps.length - 0) Pf.zero)) := by
    rw [made_four] at hown
    refine hidP ?_
    unfold OwnR
    rw [Nat.sub_zero, List.take_zero, List.map_nil, List.nil_append, List.length_replicate, ← HN.out]; exact hown
  have HW : Hid (Below w.heap.size w w1) := (Below.refl _ w).grown hgrow (Nat.le_refl _) (fun k hk => by cases hk)
  clear hown hgrow
  go_loopw [17] (fun t17 wr => ∃ k : Nat, k ≤ n ∧ t17 = .int .i64 k ∧ (ps.take k).all Pf.pok = true ∧ OwnR 96 wr w.heap.size (.slice (some ⟨w.heap.size, 0, none⟩) n n) ((ps.take k).map Pf.sp ++ List.replicate (ps.length - k) Pf.zero) ∧ Below w.heap.size w wr) (fun t17 _ => n - (intOf t17).toNat)
  case atStart => exact ⟨0, Nat.zero_le _, rfl, by simp, HO.out, HW.out⟩
  case round =>
    obtain ⟨k, hk, rfl, hall, hown, hbel⟩ := hrel
    by_cases hlt : k < n
    · obtain ⟨p, o, q, rfl, hp, hq, c0, c1, c2, c3⟩ := HB.out k (by rw [← HN.out]; exact hlt)
      have d0 := (hbel.cell hp).trans c0
      have d1' := (hbel.cell hp).trans c1
      have d2 := (hbel.cell hp).trans c2
      have d3 := (hbel.cell hp).trans c3
      have hpr : p < wr.heap.size := Nat.lt_of_lt_of_le hp hbel.size
      have HOw := hidP hown
      have HBel := hidP hbel
      have HQ := hidP hq
      have HAll := hidP hall
      have hwr : w.heap.size < wr.heap.size := (OwnR.lt hown _ rfl).2
      clear hown hbel c0 c1 c2 c3 hq hall HO HW
      have hlen : n = ((ps.take k).map Pf.sp ++ List.replicate (ps.length - k) Pf.zero).length := by rw [List.length_append, List.length_map, List.length_take, List.length_replicate]; have := HN.out; omega
      have HLen := hidP hlen
      clear hlen
      cases hpk : pokB q.s q.H q.L q.b
      · have HNo : Hid (ps.all Pf.pok = false) := by
          refine hidP ?_
          rw [List.all_eq_false]
          exact ⟨q, List.mem_of_getElem? HQ.out, by show ¬ pokB q.s q.H q.L q.b = true; rw [hpk]; simp⟩
        go_wp2_with fail
        refine (spanOf_no q.s q.H q.L q.b hpk _).mono ?_
        rintro e w2 ⟨rfl, hb2⟩
        have hz2 := hb2.size
        try simp at hz2
        have HB2 := hidP (hb2.mono (show w.heap.size ≤ _ by simp; omega))
        clear hb2
        go_wp2_with fail
        go_ret2
        exact ⟨Or.inr ⟨HNo.out, rfl⟩, ((HBel.out.alloc (by omega) _).trans HB2.out).alloc (by omega) _⟩
      · obtain ⟨m, hm⟩ : ∃ m : Nat, (m : Int) = (wd q.s : Int) - q.b := ⟨((wd q.s : Int) - q.b).toNat, by have := (pokB_parts hpk).2.1; omega⟩
        go_wp2_with fail
        refine (spanOf_yes q.s q.H q.L q.b m hm hpk _).mono ?_
        rintro e w2 ⟨rfl, hb2⟩
        have hz2 := hb2.size
        try simp at hz2
        have HB2 := hidP (hb2.mono (show w.heap.size ≤ _ by simp; omega))
        have ho2 := (HOw.out.alloc _).later hb2
        have hw2 : w.heap.size < w2.heap.size := by omega
        have hput := (ho2.put HLen.out k hlt).2 q.sp
        rw [copy_sp ps k q (by rw [← HN.out]; exact hlt) HQ.out] at hput
        have HP : Hid (OwnR 96 ((((w2.setCell ⟨w.heap.size, k * 4, none⟩ (.bool q.s)).setCell ⟨w.heap.size, k * 4 + 1, none⟩ (.int .i64 q.H.toInt)).setCell ⟨w.heap.size, k * 4 + 2, none⟩ (.int .i64 q.L.toInt)).setCell ⟨w.heap.size, k * 4 + 3, none⟩ (.int .i64 ((wd q.s : Int) - q.b))) w.heap.size (.slice (some ⟨w.heap.size, 0, none⟩) n n) ((ps.take (k + 1)).map Pf.sp ++ List.replicate (ps.length - (k + 1)) Pf.zero)) := hput
        obtain ⟨f0, f1, f2, f3⟩ := (ho2.put HLen.out k hlt).1
        obtain ⟨p', o', q', e', hp', _, e0, e1, e2, e3⟩ := ho2.row k (by rw [← HLen.out]; exact hlt)
        simp only [Option.some.injEq, Addr.mk.injEq, and_true] at e'
        obtain ⟨rfl, rfl⟩ := e'
        rw [Nat.zero_add] at e0 e1 e2 e3
        have HAll2 : Hid ((ps.take (k + 1)).all Pf.pok = true) := by
          refine hidP ?_
          rw [List.take_add_one, HQ.out, List.all_append, HAll.out]
          simp [Pf.pok, hpk]
        clear hb2 ho2 hput d0 d1' d2 d3 HOw
        go_wp2_with fail
        go_roundw
        case rel =>
          refine ⟨k + 1, by omega, by go_num, HAll2.out, ?_, ?_⟩
          · exact HP.out.alloc _
          · exact ((((((HBel.out.alloc (by omega) _).trans HB2.out).setCell (Nat.le_refl _) _).setCell (Nat.le_refl _) _).setCell (Nat.le_refl _) _).setCell (Nat.le_refl _) _).alloc (by simp; omega) _
        case measure => simp [intOf]; omega
    · have hkn : k = n := by omega
      subst hkn
      have HO2 : Hid (ps.all Pf.pok = true ∧ OwnR 96 wr w.heap.size (.slice (some ⟨w.heap.size, 0, none⟩) k k) (ps.map Pf.sp)) := by
        have e := HN.out
        rw [e, List.take_length, Nat.sub_self, List.replicate_zero, List.append_nil] at hown
        rw [e, List.take_length] at hall
        rw [← e] at hown
        exact hidP ⟨hall, hown⟩
      have HBel := hidP hbel
      clear hown hbel hall HO HW
      go_wp2
      go_ret2
      exact ⟨Or.inl ⟨HO2.out.1, _, rfl, HO2.out.2⟩, HBel.out⟩

end Go.Proofs.YtdbcdichmmcnbaaGreat

/-
  The specification's Without: one row, or none where a prefix is not right.
-/
namespace Go.Proofs.YtdbcdichmmcnbaaGreat
open Go.RowKit

theorem right_pre (xs : List Sp) (hxs : ∀ t ∈ xs, t.ok) (hl : xs.length ≤ 300) : rightP (xs.map Sp.pre) = true := by
  unfold rightP
  rw [List.length_map, decide_eq_true hl, Bool.and_true, List.all_eq_true]
  intro p hp
  obtain ⟨t, ht, rfl⟩ := List.mem_map.1 hp
  exact (hxs t ht).pok

theorem sp_pre (xs : List Sp) : (xs.map Sp.pre).map Pf.sp = xs.map Sp.spn := by
  rw [List.map_map]
  refine List.map_congr_left fun x _ => ?_
  show (⟨x.s, x.H, x.L, (wd x.s : Int) - ((wd x.s : Int) - x.n)⟩ : Pf) = ⟨x.s, x.H, x.L, x.n⟩
  congr 1
  omega

end Go.Proofs.YtdbcdichmmcnbaaGreat

/-
  The program's filled and last, each by its plain twin; nothing old in memory turns.
-/
namespace Go.Proofs.YtdbcdichmmcnbaaGreat
open Go.RowKit

set_option maxHeartbeats 400000 in
theorem filled_any (s : Bool) (H L : BitVec 64) (n : Nat) (hn : n ≤ 128) (w : World) :
    Calls Tryz.prog 184 #[.agg #[.bool s, .int .i64 H.toInt, .int .i64 L.toInt], .int .i64 n] w fun e w' => e = .returned (.agg #[.bool s, .int .i64 (fH n H).toInt, .int .i64 (fL n L).toInt]) ∧ Below w.heap.size w w' := by
  go_enter Tryz.func184, Tryz.ntmps184
  go_wp2_with fail
  refine (lastBits_any n hn _).mono ?_
  rintro e w1 ⟨rfl, hb⟩
  obtain ⟨hc, hf⟩ := olds (n := w.heap.size + 2) (hb.mono (by simp))
  have hz1 : w.heap.size + 1 < w1.heap.size := by have := hb.size; simp at this; omega
  have hz0 : w.heap.size < w1.heap.size := by omega
  have b1 : Below w.heap.size w w1 := (((Below.refl _ w).alloc (Nat.le_refl _) _).alloc (by simp) _).trans (hb.mono (by simp; omega))
  go_wp2
  refine bodyPost_ret (v := .agg #[.bool s, .int .i64 (fH n H).toInt, .int .i64 (fL n L).toInt]) (by simp [results, Tryz.results184, go_sem, hc, bOr, fH, fL]) rfl ⟨rfl, ?_⟩
  repeat (first | with_reducible exact b1 | (with_reducible refine Below.setCell ?_ (by first | omega | (simp; done) | (simp; omega)) _) | (with_reducible refine Below.alloc ?_ (by first | omega | (simp; done) | (simp; omega)) _))

set_option maxHeartbeats 1000000 in
theorem last_any (s : Bool) (H L : BitVec 64) (n : Nat) (hn : n ≤ 128) (w : World) :
    Calls Tryz.prog 176 #[.agg #[.bool s, .int .i64 H.toInt, .int .i64 L.toInt, .int .i64 n]] w fun e w' => e = .returned (.agg #[.bool s, .int .i64 (fH n H).toInt, .int .i64 (fL n L).toInt]) ∧ Below w.heap.size w w' := by
  go_enter Tryz.func176, Tryz.ntmps176
  go_wp2_with fail
  refine (filled_any s H L n hn _).mono ?_
  rintro e w1 ⟨rfl, hb1⟩
  have hz1 := hb1.size
  try simp at hz1
  have f10 : w.heap.size < w1.heap.size := by omega
  have f11 : w.heap.size + 1 < w1.heap.size := by omega
  refine olds_k (w.heap.size + 2) hb1 ?_ ?_
  · first | omega | (simp; omega) | (simp; done)
  intro hc1 hf1
  go_wp2_with fail
  refine bodyPost_ret (v := .agg #[.bool s, .int .i64 (fH n H).toInt, .int .i64 (fL n L).toInt]) (by simp [results, Tryz.results176, go_sem, hc1]) rfl ⟨rfl, ?_⟩
  repeat (first | with_reducible exact Below.refl _ _ | (with_reducible refine Below.drew ?_) | (with_reducible refine Below.alloc ?_ ?_ _; rotate_left; (focus (first | omega | (simp; omega) | (simp; done)))) | (with_reducible refine Below.setCell ?_ ?_ _; rotate_left; (focus (first | omega | (simp; omega) | (simp; done)))) | (with_reducible refine Below.trans ?_ (hb1.mono ?_); rotate_left; (focus (first | omega | (simp; omega) | (simp; done)))))

end Go.Proofs.YtdbcdichmmcnbaaGreat

/-
  The program's halves of a span, by its plain twin; nothing old in memory turns.
-/
namespace Go.Proofs.YtdbcdichmmcnbaaGreat
open Go.RowKit

set_option maxHeartbeats 1000000 in
theorem halves_any (s : Bool) (H L : BitVec 64) (k : Nat) (hk : k + 1 ≤ 128) (w : World) :
    Calls Tryz.prog 161 #[.agg #[.bool s, .int .i64 H.toInt, .int .i64 L.toInt, .int .i64 ((k : Int) + 1)]] w fun e w' => e = .returned (.tuple #[.agg #[.bool s, .int .i64 H.toInt, .int .i64 L.toInt, .int .i64 k], .agg #[.bool s, .int .i64 (cH k (fH (k + 1) H)).toInt, .int .i64 (cL k (fL (k + 1) L)).toInt, .int .i64 k]]) ∧ Below w.heap.size w w' := by
  have hcl := last_any s H L (k + 1) hk
  simp only [Int.natCast_add, Int.natCast_one] at hcl
  have HL : Hid (∀ w, _) := hcl
  clear hcl
  have HC : Hid (∀ w, _) := cleared_any s (fH (k + 1) H) (fL (k + 1) L) k (by omega)
  go_enter Tryz.func161, Tryz.ntmps161
  go_wp2_with fail
  go_region_with (first | (go_at_call 176; refine (HL.out _).mono ?_; rintro e w1 ⟨rfl, hb1⟩; have hz1 := hb1.size; (try simp at hz1); (first | (refine ltk (w.heap.size) (w1.heap.size) ?_ ?_; (focus omega); intro f10) | skip); (first | (refine ltk (w.heap.size + 1) (w1.heap.size) ?_ ?_; (focus omega); intro f11) | skip); (first | (refine ltk (w.heap.size + 2) (w1.heap.size) ?_ ?_; (focus omega); intro f12) | skip); (refine olds_k (w.heap.size + 3) hb1 ?_ ?_; (focus (first | omega | (simp; omega) | (simp; done))); intro hc1 hf1)) | (go_at_call 131; refine (HC.out _).mono ?_; rintro e w2 ⟨rfl, hb2⟩; have hz2 := hb2.size; (try simp at hz2); (first | (refine ltk (w.heap.size) (w2.heap.size) ?_ ?_; (focus omega); intro f20) | skip); (first | (refine ltk (w.heap.size + 1) (w2.heap.size) ?_ ?_; (focus omega); intro f21) | skip); (first | (refine ltk (w.heap.size + 2) (w2.heap.size) ?_ ?_; (focus omega); intro f22) | skip); (refine olds_k (w.heap.size + 3) hb2 ?_ ?_; (focus (first | omega | (simp; omega) | (simp; done))); intro hc2 hf2)))
  all_goals
    go_wp2_with fail
    refine bodyPost_ret (v := .tuple #[.agg #[.bool s, .int .i64 H.toInt, .int .i64 L.toInt, .int .i64 k], .agg #[.bool s, .int .i64 (cH k (fH (k + 1) H)).toInt, .int .i64 (cL k (fL (k + 1) L)).toInt, .int .i64 k]]) (by simp [results, Tryz.results161, go_sem, hc1, hc2]) rfl ⟨rfl, ?_⟩
    repeat (first | with_reducible exact Below.refl _ _ | (with_reducible refine Below.drew ?_) | (with_reducible refine Below.alloc ?_ ?_ _; rotate_left; (focus (first | omega | (simp; omega) | (simp; done)))) | (with_reducible refine Below.setCell ?_ ?_ _; rotate_left; (focus (first | omega | (simp; omega) | (simp; done)))) | (with_reducible refine Below.trans ?_ (hb2.mono ?_); rotate_left; (focus (first | omega | (simp; omega) | (simp; done)))) | (with_reducible refine Below.trans ?_ (hb1.mono ?_); rotate_left; (focus (first | omega | (simp; omega) | (simp; done)))))

end Go.Proofs.YtdbcdichmmcnbaaGreat
