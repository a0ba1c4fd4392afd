/-
  The specification's l13Entries: the same entries in rows of its own.
-/
import Derived.Test.YtlhddiikbfobjaaChecked
import GoSem.Claim
import GoSem.ClaimJoined
import GoSem.ClaimMapViews
import Derived.JoinedTies
import Derived.KernelRfl
import Derived.WalkKit
import Derived.WalkSpells
import Derived.WalkLawsBesides
import Derived.Deep.AppendSrc
import Derived.OwnWalk
import Derived.Deep.RegionWith
import Derived.Deep.DeepCutAuto
import Derived.Deep.QuietTactic
import Derived.BigQuiet
import Derived.Deep.AppendLies
import Derived.Carry
import Derived.Deep.Slices
import Derived.Deep.RegionHeld3
import Derived.ChangeMaps5
import Derived.Lib.SmallJoins
import Derived.Lib.SliceRun
import Derived.ProofKit
import Derived.RangeFuncNested
import Derived.RangeFuncBound
import Derived.RangeFuncCalls
import Derived.RangeFuncLeaves
import Derived.Shelf.Abstract
import Derived.Shelf.RegionOpen
import Derived.OwnWalkIn
import Derived.TacticsInMore
import Derived.LoopNIn
import Derived.LoopIn
import Derived.RegionTactic
import Derived.Lib.AppendZeros
import Derived.Test.YtlhddiikbfobjaaZE16
import Derived.Test.YtlhddiikbfobjaaZE1
namespace Go.Proofs.Ytlhddiikbfobjaa
open Go.ChangeShapes Go.WideShapes Go.ChangeAt Go.RowKit Go.Joins Go.Deep

/-- An entry whose bytes lie in a row of one's own. -/
structure EnW (X : World) (B : Nat) (e : En) : Prop where
  hn : e.n = e.zs.length
  ho : Oct e.zs
  n4 : e.n ≤ 400
  own : OwnG KBy 5 X B (.slice e.a e.n e.c) e.zs
theorem EnW.later {X Y : World} {B : Nat} {e : En} (h : EnW X B e) (hb : Below X.heap.size X Y) : EnW Y B e := ⟨h.hn, h.ho, h.n4, h.own.later hb⟩
theorem EnW.app {X Y : World} {B : Nat} {e : En} {v : Value} {fs : List En} (h : EnW X B e) (g : OwnG KEn 65 X B v fs) (hg : X.grownBy Y v.ownBlock) : EnW Y B e :=
  ⟨h.hn, h.ho, h.n4, h.own.kpt (M := fun q => some q ≠ v.ownBlock) ⟨hg.os, hg.tape, hg.output, hg.size, fun q hq hn => hg.block q hq hn⟩ (fun q hq e => own_sep h.own g (by decide) q hq e.symm)⟩
/-- It can be copied. -/
structure EnC (w : World) (e : En) : Prop where
  dat : DatR w e
  n4 : e.n ≤ 400
  nc : e.a = none → e.c = 0

set_option maxRecDepth 10000 in
set_option maxHeartbeats 8000000 in
theorem l13Entries_any (la : Option Addr) (ln lc : Nat) (es : List En) (w : World) (hl : ln = es.length) (hR : RowG KEn w la es) (hD : ∀ e ∈ es, EnC w e) (hz : ln ≤ 200) :
    Calls Try.prog 75 #[.slice la ln lc] w fun e w' => ∃ a' c' fs, e = .returned (.slice a' ln c') ∧ ln = fs.length ∧ fs.map En.key = es.map En.key ∧ OwnG KEn 65 w' w.heap.size (.slice a' ln c') fs ∧ (∀ e ∈ fs, EnW w' w.heap.size e) ∧ Below w.heap.size w w' := by
  have HR := hidP (And.intro hR hD)
  have HN := hidP hl
  have HO0 := hidP (own_zeroG KEn w w.heap.size 65 (Nat.le_refl _))
  have HB0 := hidP (alloc_below w (.cells #[] 65))
  clear hR hD hl
  go_enter Try.func75, Try.ntmps75
  go_wp2_with fail
  generalize w.alloc (.cells #[] 65) = W1 at *
  go_loopw [3, 4] (fun t3 t4 wr => ∃ (a' : Option Addr) (c' : Nat) (fs : List En), fs.length ≤ ln ∧ t4 = .int .i64 fs.length ∧ t3 = .slice a' fs.length c' ∧ fs.map En.key = (es.take fs.length).map En.key ∧ OwnG KEn 65 wr w.heap.size (.slice a' fs.length c') fs ∧ (∀ e ∈ fs, EnW wr w.heap.size e) ∧ Below w.heap.size w wr) (fun _ t4 _ => ln - (intOf t4).toNat)
  case atStart => exact ⟨_, _, [], Nat.zero_le _, rfl, rfl, rfl, HO0.out, (fun e he => by cases he), HB0.out⟩
  case round =>
    obtain ⟨a', c', fs, hk, rfl, rfl, hke, hown, hfs, hbel⟩ := hrel
    have HK0 := hidP hke
    have HF := hidP (And.intro hown (And.intro hfs hbel))
    generalize hkk : fs.length = i at *
    have HKK := hidP hkk
    clear hke hkk hown hfs hbel HO0 HB0
    by_cases hlt : i < ln
    · obtain ⟨p, o, q, rfl, hp, hq, c0, c1, c2⟩ := rowEn HR.out.1 i (by have := HN.out; omega)
      have hC := HR.out.2 q (List.mem_of_getElem? hq)
      have HC := hidP hC
      have HQ := hidP hq
      have i0 : (0 : Int) ≤ (i : Int) := by omega
      have i1 : (i : Int) < (ln : Int) := by omega
      have hsz : w.heap.size ≤ wr.heap.size := HF.out.2.2.size
      have HSx : Hid (∀ x, Below w.heap.size w x → (x.cell? ⟨p, o + i * 3, none⟩ = some (.int .i64 q.T) ∧ x.cell? ⟨p, o + i * 3 + 1, none⟩ = some (.int .i64 q.K) ∧ x.cell? ⟨p, o + i * 3 + 2, none⟩ = some (.slice q.a q.n q.c))) := hidP fun x h => ⟨(h.cell hp).trans c0, (h.cell hp).trans c1, (h.cell hp).trans c2⟩
      clear hq hC c0 c1 c2
      go_wp2_with fail
      refine wp_region_held_drew (S := (fun x => x.cell? ⟨p, o + i * 3, none⟩ = some (.int .i64 q.T) ∧ x.cell? ⟨p, o + i * 3 + 1, none⟩ = some (.int .i64 q.K) ∧ x.cell? ⟨p, o + i * 3 + 2, none⟩ = some (.slice q.a q.n q.c))) (by kernel_rfl) ?_ (fun hHeld => ?_)
      · try dsimp only
        exact HSx.out _ HF.out.2.2.drew
      have HD0 := hidP (And.intro (HF.out.1.later (Below.refl wr.heap.size wr).drew) (And.intro (fun e he => (HF.out.2.1 e he).later (Below.refl wr.heap.size wr).drew) HF.out.2.2.drew))
      have hsd : w.heap.size ≤ wr.drew.heap.size := hsz
      clear HF hsz
      generalize wr.drew = wd at *
      refine tk 0 12 rfl ?_
      simp only [pa]
      refine tk 1 13 rfl ?_
      simp only [pa]
      refine tk 2 14 rfl ?_
      simp only [pa]
      refine tk 3 15 rfl ?_
      simp only [pa]
      refine tk 4 16 rfl ?_
      simp only [pa]
      refine tk 5 17 rfl ?_
      simp only [pa]
      refine tk 6 18 rfl ?_
      simp only [pa]
      refine tk 7 19 rfl ?_
      simp only [pa]
      refine tk 8 20 rfl ?_
      simp only [pa]
      refine tk 9 21 rfl ?_
      simp only [pa]
      refine tk 10 22 rfl ?_
      simp only [pa]
      refine tk 12 24 rfl ?_
      simp only [pa]
      refine tk 13 25 rfl ?_
      simp only [pa]
      refine tk 14 26 rfl ?_
      simp only [pa]
      refine tk 15 27 rfl ?_
      simp only [pa]
      refine tk 16 28 rfl ?_
      simp only [pa]
      refine wpAnyH_ready (rs := [11]) (by kernel_rfl) (by simp) ?_
      refine AllReadyH.cons rfl (fun K hK => ?_) AllReadyH.nil
      go_simp
      have z3 := own_zeroG KBy wd wd.heap.size 5 (Nat.le_refl _)
      have zb3 := alloc_below wd (.cells #[] 5)
      have zs3 : wd.heap.size + 1 ≤ (wd.alloc (.cells #[] 5)).heap.size := by simp
      generalize wd.alloc (.cells #[] 5) = w3 at *
      have HB3 := hidP (fun e he => OwnG.lt ((HD0.out.2.1 e he).own))
      have HD3 := hidP (And.intro (HD0.out.1.later zb3) (And.intro (fun e he => (HD0.out.2.1 e he).later zb3) (HD0.out.2.2.trans (zb3.mono hsd))))
      clear zb3 HD0
      refine hK.out _ _ ?_ (fun hHeld => ?_)
      · try dsimp only
        exact HSx.out _ HD3.out.2.2
      clear hK K
      refine wpAnyH_ready (rs := [17]) (by kernel_rfl) (by simp) ?_
      refine AllReadyH.cons rfl (fun K hK => ?_) AllReadyH.nil
      refine step_appG Try.tyBy _ rfl (.tmp 23) (.tmp 28) 22 rfl wd.heap.size (some ⟨wd.heap.size, 0, none⟩) 0 0 q.n [] q.zs (.slice q.a q.n q.c) rfl rfl HC.out.dat.1 z3 rfl (src_rowG Try.tyBy.1 q.n q.c (by show 0 < 1; omega) HC.out.dat.1 (HC.out.dat.2.2.later HD3.out.2.2) HC.out.nc) (by have := HC.out.n4; omega) (by omega) ?_
      intro a4 c4 w4 ho4 hg4 ht4
      rw [Nat.zero_add, List.nil_append] at ho4
      have hb4 : Below wd.heap.size w3 w4 := (Below.refl _ w3).grown hg4 (by omega) (fun k hk => by have : wd.heap.size = k := Option.some.inj hk; omega)
      have hg4s := hg4.size
      have HW4 : Hid (EnW w4 w.heap.size ⟨q.T, q.K, a4, q.n, c4, q.zs⟩) := hidP ⟨HC.out.dat.1, HC.out.dat.2.1, HC.out.n4, ho4.mono hsd⟩
      have ne4 : (65 : TypeId) ≠ 5 := by decide
      have HD4 : Hid (OwnG KEn 65 w4 w.heap.size (.slice a' i c') fs ∧ (∀ e ∈ fs, EnW w4 w.heap.size e) ∧ Below w.heap.size w w4) := hidP ⟨HD3.out.1.grown hg4 (fun k hk he => own_sep HD3.out.1 z3 ne4 k hk he), fun e he => ⟨(HD3.out.2.1 e he).hn, (HD3.out.2.1 e he).ho, (HD3.out.2.1 e he).n4, (HD3.out.2.1 e he).own.grown hg4 (fun k hk hx => by have h1 := (HB3.out e he k hk).2; have h2 : wd.heap.size = k := Option.some.inj hx; omega)⟩, HD3.out.2.2.trans (hb4.mono hsd)⟩
      clear hg4 ht4 ho4 hb4 z3
      refine hK.out _ _ ?_ (fun hHeld => ?_)
      · try dsimp only
        exact HSx.out _ HD4.out.2.2
      clear hK K
      refine tk 18 30 rfl ?_
      simp only [Act.put, List.setIfInBounds_toArray]
      refine wpAnyH_ready (rs := [19]) (by kernel_rfl) (by simp) ?_
      refine AllReadyH.cons rfl (fun K hK => ?_) AllReadyH.nil
      go_simp
      have sO : OwnG KEn 65 (w4.alloc (.cells #[.int .i64 q.T, .int .i64 q.K, .slice a4 q.n c4] 65)) w4.heap.size (.slice (some ⟨w4.heap.size, 0, none⟩) 1 1) [⟨q.T, q.K, a4, q.n, c4, q.zs⟩] := own_oneG KEn w4 w4.heap.size 65 ⟨q.T, q.K, a4, q.n, c4, q.zs⟩ (Nat.le_refl _)
      have zb5 := alloc_below w4 (.cells #[.int .i64 q.T, .int .i64 q.K, .slice a4 q.n c4] 65)
      generalize w4.alloc (.cells #[.int .i64 q.T, .int .i64 q.K, .slice a4 q.n c4] 65) = w5 at *
      have HS5 := hidP (src_rowG Try.tyEn.1 1 1 (by show 0 < 3; omega) rfl sO.row (fun h => by cases h))
      have hb5 := HD4.out.2.2.trans (zb5.mono HD4.out.2.2.size)
      have HD5 := hidP (And.intro (HD4.out.1.later zb5) (And.intro (fun e he => (HD4.out.2.1 e he).later zb5) hb5))
      have HW5 := hidP (HW4.out.later zb5)
      clear sO zb5 HD4 HW4
      refine hK.out _ _ ?_ (fun hHeld => ?_)
      · try dsimp only
        exact HSx.out _ hb5
      clear hK K
      refine wpAnyH_ready (rs := [20]) (by kernel_rfl) (by simp) ?_
      refine AllReadyH.cons rfl (fun K hK => ?_) AllReadyH.nil
      refine step_appG Try.tyEn _ rfl (.tmp 12) (.tmp 31) 27 rfl w.heap.size a' i c' 1 fs [⟨q.T, q.K, a4, q.n, c4, q.zs⟩] (.slice (some ⟨w4.heap.size, 0, none⟩) 1 1) rfl HKK.out.symm rfl HD5.out.1 rfl HS5.out (by omega) HD5.out.2.2.size ?_
      intro a6 c6 w6 ho6 hg6 ht6
      have hb6 : Below w.heap.size w w6 := hb5.grown hg6 HD5.out.2.2.size (fun k hk => (HD5.out.1.lt k hk).1)
      have HD6 := hidP (And.intro ho6 (And.intro (fun e he => (HD5.out.2.1 e he).app HD5.out.1 hg6) (HW5.out.app HD5.out.1 hg6)))
      clear hg6 ht6 ho6
      refine hK.out _ _ ?_ (fun hHeld => ?_)
      · try dsimp only
        exact HSx.out _ hb6
      clear hK K
      refine tk 21 3 rfl ?_
      simp only [Act.put, List.setIfInBounds_toArray]
      refine wpAnyH_done (by kernel_rfl) ?_ _
      have HB6 := hidP hb6
      clear hHeld hb5 hb6
      go_wp2_with fail
      go_roundw
      case rel =>
        refine ⟨a6, c6, fs ++ [⟨q.T, q.K, a4, q.n, c4, q.zs⟩], by rw [List.length_append, HKK.out]; show i + 1 ≤ ln; omega, by rw [List.length_append, HKK.out]; go_num, by rw [List.length_append, HKK.out]; rfl, ?_, ?_, ?_, HB6.out⟩
        · rw [List.length_append, HKK.out, List.map_append, HK0.out]
          show _ = (es.take (i + 1)).map En.key
          rw [List.take_add_one, HQ.out, List.map_append]
          rfl
        · rw [List.length_append, HKK.out]; exact HD6.out.1
        · intro e he
          rcases List.mem_append.1 he with he | he
          · exact HD6.out.2.1 e he
          · rw [List.mem_singleton.1 he]; exact HD6.out.2.2
      case measure => simp [intOf]; omega
    · have hkn : ln = i := by omega
      subst hkn
      go_wp2_with fail
      go_ret
      refine ⟨a', c', fs, rfl, HKK.out.symm, ?_, HF.out.1, HF.out.2.1, HF.out.2.2⟩
      have := HK0.out
      rw [HN.out, List.take_length] at this
      exact this

end Go.Proofs.Ytlhddiikbfobjaa
