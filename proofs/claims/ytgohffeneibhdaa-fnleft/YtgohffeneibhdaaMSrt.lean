/-
  slices: a row of sorted blocks (plain).
-/
import Derived.Test.YtgohffeneibhdaaSIns
import Derived.Lib.SliceRun
namespace Go.Proofs.Ytgohffeneibhdaa
open Go.RowKit

/-- Sorted blocks of s, the last one of s or fewer. -/
inductive Blk (c : Pf → Pf → Int) (s : Nat) : List Pf → Prop where
  | last {D : List Pf} : D.length ≤ s → Srt c D → Blk c s D
  | cons {K D : List Pf} : K.length = s → Srt c K → Blk c s D → Blk c s (K ++ D)

theorem Blk.nil {c : Pf → Pf → Int} {s : Nat} : Blk c s [] := .last (Nat.zero_le _) List.Pairwise.nil
theorem Blk.srt {c : Pf → Pf → Int} {s : Nat} {D : List Pf} (h : Blk c s D) (hl : D.length ≤ s) : Srt c D := by
  cases h with
  | last _ h => exact h
  | @cons K D' h1 h2 h3 =>
    rw [List.length_append] at hl
    have : D' = [] := List.eq_nil_of_length_eq_zero (by omega)
    rw [this, List.append_nil]
    exact h2
theorem Blk.one {c : Pf → Pf → Int} {s : Nat} {D : List Pf} (h : Blk c s D) (hl : s ≤ D.length) : Srt c (D.take s) ∧ Blk c s (D.drop s) := by
  cases h with
  | last h1 h2 =>
    rw [List.take_of_length_le h1, List.drop_of_length_le h1]
    exact ⟨h2, Blk.nil⟩
  | @cons K D' h1 h2 h3 =>
    rw [← h1, List.take_left, List.drop_left, h1]
    exact ⟨h2, h3⟩
theorem Blk.two {c : Pf → Pf → Int} {s : Nat} {D : List Pf} (h : Blk c s D) (hl : 2 * s ≤ D.length) : Srt c (D.take s) ∧ Srt c ((D.drop s).take s) ∧ Blk c s (D.drop (2 * s)) := by
  obtain ⟨h1, h2⟩ := h.one (by omega)
  obtain ⟨h3, h4⟩ := h2.one (by rw [List.length_drop]; omega)
  refine ⟨h1, h3, ?_⟩
  rw [List.drop_drop] at h4
  rw [show 2 * s = s + s by omega]
  exact h4
theorem Blk.end2 {c : Pf → Pf → Int} {s : Nat} {D : List Pf} (h : Blk c s D) (hl : s ≤ D.length) (hl2 : D.length < 2 * s) : Srt c (D.take s) ∧ Srt c (D.drop s) := by
  obtain ⟨h1, h2⟩ := h.one hl
  exact ⟨h1, h2.srt (by rw [List.length_drop]; omega)⟩
/-- What lies ahead is made of whole blocks. -/
def Pre (c : Pf → Pf → Int) (s : Nat) (L : List Pf) : Prop := ∀ D, Blk c s D → Blk c s (L ++ D)
theorem Pre.nil {c : Pf → Pf → Int} {s : Nat} : Pre c s [] := fun _ h => h
theorem Pre.add {c : Pf → Pf → Int} {s : Nat} {L K : List Pf} (h : Pre c s L) (h1 : K.length = s) (h2 : Srt c K) : Pre c s (L ++ K) := fun D hD => by
  rw [List.append_assoc]
  exact h _ (.cons h1 h2 hD)

end Go.Proofs.Ytgohffeneibhdaa

namespace Go.Proofs.Ytgohffeneibhdaa
open Go.RowKit

/-- What the merge promises. -/
def SymP (A : Pf → Prop) (c : Pf → Pf → Int) (g n cap B k : Nat) : Prop := ∀ (p U V q : List Pf) (a m b : Nat), a = p.length → m = p.length + U.length → b = p.length + U.length + V.length → U.length + V.length ≤ k → 0 < U.length → 0 < V.length → (∀ y ∈ U, A y) → (∀ y ∈ V, A y) → Srt c U → Srt c V → ∀ w : World, OwnR 55 w B (.slice (some ⟨g, 0, none⟩) n cap) (p ++ (U ++ (V ++ q))) →
    Calls Try.prog 90 #[.slice (some ⟨g, 0, none⟩) n cap, .int .i64 a, .int .i64 m, .int .i64 b, .func (.func 30) #[] #[]] w fun e w' => (∃ v, e = .returned v) ∧ (∃ R, R.Perm (U ++ V) ∧ Srt c R ∧ OwnR 55 w' B (.slice (some ⟨g, 0, none⟩) n cap) (p ++ (R ++ q))) ∧ w.grownBy w' (some g)

end Go.Proofs.Ytgohffeneibhdaa

namespace Go.Proofs.Ytgohffeneibhdaa
open Go.RowKit

set_option maxRecDepth 10000 in
set_option maxHeartbeats 4000000 in
theorem stable_any (A : Pf → Prop) (c : Pf → Pf → Int) (ho : Ordr A c) (hc : Cmpr A c) (g n cap B : Nat) (X : List Pf) (hA : ∀ x ∈ X, A x) (hn9 : n ≤ 1000000000) (hM : ∀ k, SymP A c g n cap B k) (w : World) (h : OwnR 55 w B (.slice (some ⟨g, 0, none⟩) n cap) X) :
    Calls Try.prog 81 #[.slice (some ⟨g, 0, none⟩) n cap, .int .i64 n, .func (.func 30) #[] #[]] w fun e w' => (∃ v, e = .returned v) ∧ (∃ R, R.Perm X ∧ Srt c R ∧ OwnR 55 w' B (.slice (some ⟨g, 0, none⟩) n cap) R) ∧ w.grownBy w' (some g) := by
  have HO := hidP h
  have HA := hidP hA
  have hn : n = X.length := h.caps.1
  have HN := hidP hn
  have HI := hidP (insertion_any A c ho hc g n cap B)
  have HM := hidP hM
  clear h ho hc hA hn hM
  go_enter Try.func81, Try.ntmps81
  go_wp2_with fail
  go_loopw [7, 8] (fun t7 t8 wr => ∃ (a b : Nat) (L : List Pf), t7 = .int .i64 a ∧ t8 = .int .i64 b ∧ b = a + 20 ∧ a ≤ n ∧ a = L.length ∧ L.Perm (X.take a) ∧ Pre c 20 L ∧ OwnR 55 wr B (.slice (some ⟨g, 0, none⟩) n cap) (L ++ X.drop a) ∧ w.grownBy wr (some g)) (fun t7 _ _ => n - (intOf t7).toNat)
  case atStart => exact ⟨0, 20, [], rfl, rfl, rfl, Nat.zero_le _, rfl, List.Perm.refl _, Pre.nil, HO.out, World.grownBy.refl _ _⟩
  case round =>
    obtain ⟨a, b, L, rfl, rfl, hb, han, haL, hpm, hpre, hown, hgr⟩ := hrel
    have HL := hidP (And.intro hb (And.intro haL (And.intro hpm hpre)))
    have HG := hidP hgr
    by_cases hlt : b ≤ n
    · have hd : X.drop a = (X.drop a).take 20 ++ X.drop b := by rw [hb, ← List.drop_drop, List.take_append_drop]
      rw [hd] at hown
      have HOw := hidP hown
      have hkl : ((X.drop a).take 20).length = 20 := by have := HN.out; rw [List.length_take, List.length_drop]; omega
      have key := HI.out L ((X.drop a).take 20) (X.drop b) a b haL (by omega) (fun x hx => HA.out x (List.mem_of_mem_drop (List.mem_of_mem_take hx))) hn9 wr hown
      have HK := hidP key
      have HKl := hidP hkl
      have hab : a < b := by omega
      clear hd hown hkl key hb haL hpm hpre hgr HO
      go_wp2_with fail
      refine HK.out.mono ?_
      rintro e w2 ⟨⟨v, rfl⟩, ⟨R, r1, r2, r3⟩, g2⟩
      have hR : R.length = 20 := by rw [r1.length_eq]; exact HKl.out
      rw [← List.append_assoc] at r3
      have hF : b = (L ++ R).length ∧ (L ++ R).Perm (X.take b) ∧ Pre c 20 (L ++ R) := by
        obtain ⟨l1, l2, l3, l4⟩ := HL.out
        refine ⟨by rw [List.length_append]; omega, ?_, l4.add hR r2⟩
        rw [l1, List.take_add]
        exact l3.append r1
      have HF := hidP (And.intro hF r3)
      have HG2 := hidP (HG.out.trans g2)
      clear r1 r2 r3 g2 hR hF
      go_wp2_with fail
      go_roundw
      case rel =>
        obtain ⟨⟨f1, f2, f3⟩, f4⟩ := HF.out
        first
          | exact ⟨b, b + 20, L ++ R, rfl, by go_num, rfl, hlt, f1, f2, f3, f4, HG2.out⟩
          | exact ⟨b, rfl, b + 20, by go_num, rfl, hlt, L ++ R, f1, f2, f3, f4, HG2.out⟩
      case measure => simp [intOf]; omega
    · have hown' := hown
      rw [← List.append_nil (X.drop a)] at hown'
      have key := HI.out L (X.drop a) [] a n haL (by have := HN.out; rw [List.length_drop]; omega) (fun x hx => HA.out x (List.mem_of_mem_drop hx)) hn9 wr hown'
      have HK := hidP key
      clear hown hown' key hb haL hpm hpre hgr HO
      go_wp2_with fail
      refine HK.out.mono ?_
      rintro e w2 ⟨⟨v, rfl⟩, ⟨R0, r1, r2, r3⟩, g2⟩
      rw [List.append_nil] at r3
      have hF : (L ++ R0).Perm X ∧ Blk c 20 (L ++ R0) := by
        obtain ⟨l1, l2, l3, l4⟩ := HL.out
        refine ⟨?_, l4 _ (.last (by have := HN.out; rw [r1.length_eq, List.length_drop]; omega) r2)⟩
        have := l3.append r1
        rw [List.take_append_drop] at this
        exact this
      have HF := hidP (And.intro hF r3)
      have HG2 := hidP (HG.out.trans g2)
      clear r1 r2 r3 g2 hF
      go_wp2_with fail
      go_loopw [6] (fun t6 wr => ∃ (s : Nat) (R : List Pf), t6 = .int .i64 s ∧ 0 < s ∧ s ≤ 2000000020 ∧ R.Perm X ∧ Blk c s R ∧ OwnR 55 wr B (.slice (some ⟨g, 0, none⟩) n cap) R ∧ w.grownBy wr (some g)) (fun t6 _ => n - (intOf t6).toNat)
      case atStart =>
        obtain ⟨⟨f1, f2⟩, f3⟩ := HF.out
        exact ⟨20, L ++ R0, rfl, by omega, by omega, f1, f2, f3, HG2.out⟩
      case round =>
        obtain ⟨s, R, rfl, hs0, hs9, hpm, hblk, hown, hgr⟩ := hrel
        have HR := hidP (And.intro hpm hblk)
        have HOw := hidP hown
        have HGr := hidP hgr
        by_cases hsn : s < n
        · have hRn : n = R.length := by rw [hpm.length_eq]; exact HN.out
          have HRn := hidP hRn
          obtain ⟨s2, hs2⟩ : ∃ s2 : Nat, s2 = 2 * s := ⟨_, rfl⟩
          have hs2i : (2 : Int) * (s : Int) = (s2 : Int) := by omega
          have hs2j : (s : Int) * (2 : Int) = (s2 : Int) := by omega
          have hs29 : s2 ≤ 2000000000 := by omega
          have HS2 := hidP hs2
          clear hpm hblk hown hgr hRn hs2 HF HG2 HG HL HK
          go_wp2_with fail
          go_loopw [7, 8] (fun t7 t8 wi => ∃ (a b : Nat) (L : List Pf), t7 = .int .i64 a ∧ t8 = .int .i64 b ∧ b = a + s2 ∧ a ≤ n ∧ a = L.length ∧ L.Perm (R.take a) ∧ Pre c s2 L ∧ Blk c s (R.drop a) ∧ OwnR 55 wi B (.slice (some ⟨g, 0, none⟩) n cap) (L ++ R.drop a) ∧ w.grownBy wi (some g)) (fun t7 _ _ => n - (intOf t7).toNat)
          case atStart => exact ⟨0, s2, [], rfl, rfl, by omega, Nat.zero_le _, rfl, List.Perm.refl _, Pre.nil, HR.out.2, HOw.out, HGr.out⟩
          case round =>
            obtain ⟨a, b, L, rfl, rfl, hb, han, haL, hpm, hpre, hblk, hown, hgr⟩ := hrel
            have HL := hidP (And.intro hb (And.intro haL (And.intro hpm hpre)))
            have HG := hidP hgr
            have hRn := HRn.out
            have hs2 := HS2.out
            obtain ⟨m, hm⟩ : ∃ m : Nat, (a : Int) + (s : Int) = (m : Int) := ⟨a + s, by omega⟩
            have hm9 : m ≤ 2000000000 := by omega
            have hRA : ∀ x ∈ R, A x := fun x hx => HA.out x (HR.out.1.mem_iff.1 hx)
            have hdl : (R.drop a).length = n - a := by rw [List.length_drop]; omega
            by_cases hlt : b ≤ n
            · obtain ⟨q1, q2, q3⟩ := hblk.two (by omega)
              have hd : R.drop a = (R.drop a).take s ++ (((R.drop a).drop s).take s ++ R.drop b) := by
                rw [show R.drop b = ((R.drop a).drop s).drop s by rw [List.drop_drop, List.drop_drop]; congr 1; omega, List.take_append_drop, List.take_append_drop]
              have hown' := hown
              rw [hd] at hown'
              have u1 : ((R.drop a).take s).length = s := by rw [List.length_take]; omega
              have u2 : (((R.drop a).drop s).take s).length = s := by rw [List.length_take, List.length_drop]; omega
              have key := HM.out (s + s) L ((R.drop a).take s) (((R.drop a).drop s).take s) (R.drop b) a m b haL (by omega) (by omega) (by omega) (by omega) (by omega) (fun x hx => hRA x (List.mem_of_mem_drop (List.mem_of_mem_take hx))) (fun x hx => hRA x (List.mem_of_mem_drop (List.mem_of_mem_drop (List.mem_of_mem_take hx)))) q1 q2 wr hown'
              have HK := hidP key
              have hq3 : Blk c s (R.drop b) := by rw [List.drop_drop] at q3; rw [show b = a + 2 * s by omega]; exact q3
              have hq4 : R.take b = R.take a ++ ((R.drop a).take s ++ ((R.drop a).drop s).take s) := by
                rw [← List.take_add, hb, List.take_add, show s2 = s + s by omega]
              have HQ := hidP (And.intro hq3 (And.intro hq4 (And.intro u1 u2)))
              have hab : a < b := by omega
              clear q1 q2 q3 hd hown hown' u1 u2 key hq3 hq4 hb haL hpm hpre hgr hblk hRn hs2 hRA hdl
              go_wp2_with fail
              refine HK.out.mono ?_
              rintro e w2 ⟨⟨v, rfl⟩, ⟨R2, r1, r2, r3⟩, g2⟩
              rw [← List.append_assoc] at r3
              have hF : b = (L ++ R2).length ∧ (L ++ R2).Perm (R.take b) ∧ Pre c s2 (L ++ R2) := by
                obtain ⟨l1, l2, l3, l4⟩ := HL.out
                obtain ⟨k1, k2, k3, k4⟩ := HQ.out
                have hs2 := HS2.out
                have hl := r1.length_eq
                rw [List.length_append, k3, k4] at hl
                refine ⟨by rw [List.length_append]; omega, ?_, l4.add (by omega) r2⟩
                rw [k2]
                exact l3.append r1
              have HF := hidP (And.intro hF r3)
              have HG2 := hidP (HG.out.trans g2)
              have hb9 : b ≤ 1000000000 := by omega
              clear r1 r2 r3 g2 hF
              go_wp2_with fail
              go_roundw
              case rel =>
                obtain ⟨⟨f1, f2, f3⟩, f4⟩ := HF.out
                first
                  | exact ⟨b, b + s2, L ++ R2, rfl, by go_num, rfl, hlt, f1, f2, f3, HQ.out.1, f4, HG2.out⟩
                  | exact ⟨b, rfl, b + s2, by go_num, rfl, hlt, L ++ R2, f1, f2, f3, HQ.out.1, f4, HG2.out⟩
              case measure => simp [intOf]; omega
            · by_cases hmn : m < n
              · obtain ⟨q1, q2⟩ := hblk.end2 (by omega) (by omega)
                have hown' := hown
                rw [← List.take_append_drop s (R.drop a), ← List.append_nil ((R.drop a).drop s)] at hown'
                have u1 : ((R.drop a).take s).length = s := by rw [List.length_take]; omega
                have u2 : ((R.drop a).drop s).length = n - a - s := by rw [List.length_drop]; omega
                have key := HM.out (n - a) L ((R.drop a).take s) ((R.drop a).drop s) [] a m n haL (by omega) (by omega) (by omega) (by omega) (by omega) (fun x hx => hRA x (List.mem_of_mem_drop (List.mem_of_mem_take hx))) (fun x hx => hRA x (List.mem_of_mem_drop (List.mem_of_mem_drop hx))) q1 q2 wr hown'
                have HK := hidP key
                have HQ := hidP hdl
                clear q1 q2 hown hown' u1 u2 key hb haL hpm hpre hgr hblk hRn hs2 hRA hdl
                go_wp2_with fail
                refine HK.out.mono ?_
                rintro e w2 ⟨⟨v, rfl⟩, ⟨R2, r1, r2, r3⟩, g2⟩
                rw [List.append_nil] at r3
                rw [List.take_append_drop] at r1
                have hF : (L ++ R2).Perm X ∧ Blk c s2 (L ++ R2) := by
                  obtain ⟨l1, l2, l3, l4⟩ := HL.out
                  refine ⟨?_, l4 _ (.last (by have := HQ.out; rw [r1.length_eq]; omega) r2)⟩
                  have := l3.append r1
                  rw [List.take_append_drop] at this
                  exact this.trans HR.out.1
                have HF := hidP (And.intro hF r3)
                have HG2 := hidP (HG.out.trans g2)
                clear r1 r2 r3 g2 hF
                go_wp2_with fail
                go_roundw
                case rel =>
                  obtain ⟨⟨f1, f2⟩, f3⟩ := HF.out
                  have hs2 := HS2.out
                  first
                    | exact ⟨s2, L ++ R2, rfl, by omega, by omega, f1, f2, f3, HG2.out⟩
                    | exact ⟨s2, rfl, by omega, by omega, L ++ R2, f1, f2, f3, HG2.out⟩
                case measure => have hs2 := HS2.out; simp [intOf]; omega
              · have hF : (L ++ R.drop a).Perm X ∧ Blk c s2 (L ++ R.drop a) := by
                  refine ⟨?_, hpre _ (.last (by omega) (hblk.srt (by omega)))⟩
                  have := hpm.append (List.Perm.refl (R.drop a))
                  rw [List.take_append_drop] at this
                  exact this.trans HR.out.1
                have HF := hidP (And.intro hF hown)
                clear hown hb haL hpm hpre hgr hblk hRn hs2 hRA hdl hF
                go_wp2_with fail
                go_roundw
                case rel =>
                  obtain ⟨⟨f1, f2⟩, f3⟩ := HF.out
                  have hs2 := HS2.out
                  first
                    | exact ⟨s2, L ++ R.drop a, rfl, by omega, by omega, f1, f2, f3, HG.out⟩
                    | exact ⟨s2, rfl, by omega, by omega, L ++ R.drop a, f1, f2, f3, HG.out⟩
                case measure => have hs2 := HS2.out; simp [intOf]; omega
        · have hE : Srt c R := hblk.srt (by rw [hpm.length_eq, ← HN.out]; omega)
          have HE := hidP hE
          clear hE hpm hblk hown hgr
          go_wp2_with fail
          exact bodyPost_end (v := .tuple #[]) (by simp [results, Try.results81]) rfl ⟨⟨_, rfl⟩, ⟨R, HR.out.1, HE.out, HOw.out⟩, HGr.out⟩

end Go.Proofs.Ytgohffeneibhdaa

namespace Go.Proofs.Ytgohffeneibhdaa
open Go.RowKit

theorem Try.fourS' : Four Try.prog 50 55 := ⟨Try.underlying50, by kernel_rfl⟩
theorem below_new (w : World) (o : Obj) : Below w.heap.size w (w.alloc o) := (Below.refl _ w).alloc (Nat.le_refl _) o

set_option maxHeartbeats 1000000 in
theorem cloneSpan (a : Option Addr) (n cap : Nat) (ps : List Pf) (w : World) (hn : n = ps.length) (hB : Row w a ps) (hl : n ≤ 1048576) :
    Calls Try.prog 59 #[.slice a n cap] w fun e w' => ∃ a' c', e = .returned (.slice a' n c') ∧ OwnR 55 w' w.heap.size (.slice a' n c') ps ∧ Below w.heap.size w w' := by
  have hq : ∀ w, (binOp .eql 50 (.slice a n cap) (.slice none 0 0)).run Try.prog w = .ok (.bool a.isNone) w := fun w => Lib.run_eql_slice_nil w _ _ a n cap 0 0 Try.fourS'.1
  cases a with
  | none =>
    have hps : ps = [] := by
      cases ps with
      | nil => rfl
      | cons z t => obtain ⟨p, o, z', e, _⟩ := hB 0 (by simp); cases e
    subst hps
    have hn0 : n = 0 := hn
    subst hn0
    clear hB hn
    go_enter Try.func59, Try.ntmps59
    go_wp2_with fail
    go_ret
    exact ⟨none, 0, rfl, own_none w w.heap.size 55, Below.refl _ _⟩
  | some ad =>
    have HB := hidP hB
    have HN := hidP hn
    clear hB hn
    have HZ := hidP (own_zero w w.heap.size 55 (Nat.le_refl _))
    have HZB := hidP (below_new w (.cells #[] 55))
    go_enter Try.func59, Try.ntmps59
    go_wp2_with (at_builtin; refine wpList_appR Try.fourS' _ rfl (.tmp 5) (.tmp 6) 50 rfl w.heap.size (some ⟨w.heap.size, 0, none⟩) 0 0 n [] ps (.slice (some ad) n cap) rfl rfl HN.out HZ.out rfl (src_row Try.fourS' n cap HN.out (HB.out.later HZB.out) (fun h => by cases h)) (by omega) (by simp) ?_; intro a6 c6 w6 ho6 hg6 ht6)
    have HF := hidP (And.intro ho6 (below_appR HZB.out HZ.out (by simp) hg6))
    clear ho6 hg6 ht6
    go_wp2_with fail
    go_ret
    have h := HF.out
    rw [Nat.zero_add, List.nil_append] at h
    exact ⟨a6, c6, rfl, h.1, h.2⟩

set_option maxHeartbeats 1000000 in
theorem sortStable_any (A : Pf → Prop) (c : Pf → Pf → Int) (ho : Ordr A c) (hc : Cmpr A c) (g n cap B : Nat) (X : List Pf) (hA : ∀ x ∈ X, A x) (hn9 : n ≤ 1000000000) (hM : ∀ k, SymP A c g n cap B k) (w : World) (h : OwnR 55 w B (.slice (some ⟨g, 0, none⟩) n cap) X) :
    Calls Try.prog 60 #[.slice (some ⟨g, 0, none⟩) n cap, .func (.func 30) #[] #[]] w fun e w' => (∃ v, e = .returned v) ∧ (∃ R, R.Perm X ∧ Srt c R ∧ OwnR 55 w' B (.slice (some ⟨g, 0, none⟩) n cap) R) ∧ w.grownBy w' (some g) := by
  have HS := hidP (stable_any A c ho hc g n cap B X hA hn9 hM w h)
  clear h ho hc hA hM
  go_enter Try.func60, Try.ntmps60
  go_wp2_with fail
  refine (HS.out).mono ?_
  rintro e w2 ⟨⟨v, rfl⟩, hR, hg⟩
  have HF := hidP (And.intro hR hg)
  clear hR hg
  go_wp2_with fail
  exact bodyPost_end (v := .tuple #[]) (by simp [results, Try.results60]) rfl ⟨⟨_, rfl⟩, HF.out⟩

set_option maxHeartbeats 1000000 in
theorem sortedBy_any (A : Pf → Prop) (c : Pf → Pf → Int) (ho : Ordr A c) (hc : Cmpr A c) (a : Option Addr) (n cap : Nat) (X : List Pf) (hn : n = X.length) (h0 : 0 < n) (hA : ∀ x ∈ X, A x) (hn9 : n ≤ 1048576) (hM : ∀ g cap B k, SymP A c g n cap B k) (w : World) (h : Row w a X) :
    Calls Try.prog 29 #[.slice a n cap, .func (.func 30) #[] #[]] w fun e w' => ∃ a' c' R, e = .returned (.slice a' n c') ∧ R.Perm X ∧ Srt c R ∧ OwnR 55 w' w.heap.size (.slice a' n c') R ∧ Below w.heap.size w w' := by
  have HC := hidP (cloneSpan a n cap X w hn h hn9)
  have HS := hidP (fun g cap' B W h => sortStable_any A c ho hc g n cap' B X hA (by omega) (hM g cap' B) W h)
  clear h ho hc hA hn hM
  go_enter Try.func29, Try.ntmps29
  go_wp2_with fail
  refine (HC.out).mono ?_
  rintro e w1 ⟨a1, c1, rfl, o1, hb1⟩
  obtain ⟨gg, rfl⟩ : ∃ gg, a1 = some ⟨gg, 0, none⟩ := by
    rcases o1.2 with ⟨hv, _⟩ | ⟨gg, cap', cur, hv, _⟩
    · simp at hv; omega
    · simp at hv; exact ⟨gg, hv.1⟩
  have lg := OwnR.lt o1 gg rfl
  have H1 := hidP (And.intro o1 (And.intro hb1 lg))
  clear o1 hb1 lg
  go_wp2_with fail
  refine (HS.out gg c1 w.heap.size _ H1.out.1).mono ?_
  rintro e w2 ⟨⟨v, rfl⟩, ⟨R, hp, hs, ho⟩, hg⟩
  have HF := hidP (And.intro hp (And.intro hs (And.intro ho (H1.out.2.1.grown hg H1.out.2.1.size (fun j hj => by simp at hj; have := H1.out.2.2; omega)))))
  clear hp hs ho hg
  go_wp2_with fail
  go_ret
  exact ⟨_, _, R, rfl, HF.out⟩

end Go.Proofs.Ytgohffeneibhdaa
