/-
  The specification's l2Sorted: prefixes put in order one by one; then those kept that lie in none ahead.
-/
import Derived.Test.YtgohffeneibhdaaVJoin
import Derived.Test.YtgohffeneibhdaaMHas
import Derived.Test.YtgohffeneibhdaaPTo
namespace Go.Proofs.Ytgohffeneibhdaa
open Go.RowKit

/-- CmpPrefix of what is right. -/
def cmpF (p q : Pf) : Int := orI (cmpW (keyS p : Int) (keyS q : Int)) (cmpW p.b q.b)
theorem cmpF_pos (x y : Pf) : 0 < cmpF x y ↔ keyS y < keyS x ∨ (keyS x = keyS y ∧ y.b < x.b) := by
  unfold cmpF orI
  generalize keyS x = k
  generalize keyS y = l
  generalize x.b = a
  generalize y.b = b
  unfold cmpW
  rcases Int.lt_trichotomy (k : Int) (l : Int) with h | h | h
  · simp [h]; omega
  · have hk : k = l := by omega
    subst hk
    rcases Int.lt_trichotomy b a with h2 | h2 | h2
    · have h3 : ¬ a < b := by omega
      simp [h2, h3]
    · subst h2; simp
    · have h3 : ¬ b < a := by omega
      simp [h2, h3]
  · have h3 : ¬ (k : Int) < l := by omega
    simp [h, h3]
    omega
theorem cmpF_any (p q : Pf) (hp : okS p) (hq : okS q) (w : World) : Calls Try.prog 65 #[.agg #[.bool p.s, .int .i64 p.H.toInt, .int .i64 p.L.toInt, .int .i64 p.b], .agg #[.bool q.s, .int .i64 q.H.toInt, .int .i64 q.L.toInt, .int .i64 q.b]] w fun e w' => e = .returned (.int .i64 (cmpF p q)) ∧ Below w.heap.size w w' :=
  sCmpPrefix_any p.s p.H.toInt p.L.toInt p.b q.s q.H.toInt q.L.toInt q.b _ (cmp_ok p.s p.H p.L q.s q.H q.L hp hq).1 w
def Sr2 (S : List Pf) : Prop := S.Pairwise (fun x y => ¬ 0 < cmpF x y)
theorem cmpF_le {x y z : Pf} (h1 : ¬ 0 < cmpF x y) (h2 : ¬ 0 < cmpF y z) : ¬ 0 < cmpF x z := by
  rw [cmpF_pos] at h1 h2 ⊢; omega
theorem cmpF_gt {x y : Pf} (h : 0 < cmpF x y) : ¬ 0 < cmpF y x := by
  rw [cmpF_pos] at h ⊢; omega
/-- One more put in its place. -/
theorem ins_srt {S : List Pf} {x : Pf} {k : Nat} (hS : Sr2 S) (hk : k ≤ S.length) (h1 : k = 0 ∨ ∃ y, S[k - 1]? = some y ∧ ¬ 0 < cmpF y x) (h2 : ∀ y ∈ S.drop k, 0 < cmpF y x) : Sr2 (S.take k ++ x :: S.drop k) := by
  unfold Sr2 at hS ⊢
  have hS' := hS
  rw [← List.take_append_drop k S, List.pairwise_append] at hS'
  obtain ⟨a1, a2, a3⟩ := hS'
  rw [List.pairwise_append, List.pairwise_cons]
  refine ⟨a1, ⟨fun y hy => cmpF_gt (h2 y hy), a2⟩, fun y hy z hz => ?_⟩
  rcases List.mem_cons.1 hz with rfl | hz
  · rcases h1 with h1 | ⟨q, hq, hc⟩
    · subst h1; simp at hy
    · obtain ⟨j, hj⟩ := List.mem_iff_getElem?.1 hy
      have hjk : j < k := by
        rcases Nat.lt_or_ge j k with h | h
        · exact h
        · rw [List.getElem?_eq_none (by rw [List.length_take]; omega)] at hj; cases hj
      rw [List.getElem?_take_of_lt hjk] at hj
      rcases Nat.lt_or_ge j (k - 1) with h | h
      · have hl : k - 1 < S.length := by omega
        have h5 := (List.pairwise_iff_getElem.1 hS) j (k - 1) (by omega) hl h
        rw [List.getElem?_eq_getElem (by omega)] at hj
        rw [List.getElem?_eq_getElem hl] at hq
        cases hj; cases hq
        exact cmpF_le h5 hc
      · have : j = k - 1 := by omega
        subst this
        rw [hj] at hq
        cases hq
        exact hc
  · exact a3 y hy z hz
/-- Whether the one ahead is behind x. -/
def insB (S : List Pf) (k : Nat) (x : Pf) : Bool := match k with
  | 0 => false
  | k + 1 => match S[k]? with
    | some y => decide (0 < cmpF y x)
    | none => false
theorem row_mid {S : List Pf} {k : Nat} {y q : Pf} (hk : k + 1 ≤ S.length) (hq : S[k]? = some q) : (S.take (k + 1) ++ y :: S.drop (k + 1)).set (k + 1) q = S.take k ++ q :: S.drop k := by
  have hl : (S.take (k + 1)).length = k + 1 := by rw [List.length_take]; omega
  rw [List.set_append_right _ _ (by omega), hl, Nat.sub_self, List.set_cons_zero, List.take_add_one, hq]
  have hd : S.drop k = q :: S.drop (k + 1) := by
    rw [List.drop_eq_getElem_cons (by omega)]
    rw [List.getElem?_eq_getElem (by omega)] at hq
    cases hq; rfl
  rw [hd]; simp
theorem row_at {S : List Pf} {k : Nat} {y q : Pf} (hk : k + 1 ≤ S.length) (hq : S[k]? = some q) : (S.take (k + 1) ++ y :: S.drop (k + 1))[k]? = some q := by
  rw [List.getElem?_append_left (by rw [List.length_take]; omega), List.getElem?_take_of_lt (by omega)]; exact hq
theorem row_y {S : List Pf} {k : Nat} {y : Pf} (hk : k ≤ S.length) : (S.take k ++ y :: S.drop k)[k]? = some y := by
  have hl : (S.take k).length = k := by rw [List.length_take]; omega
  rw [List.getElem?_append_right (by omega), hl, Nat.sub_self]; rfl
theorem row_put {S : List Pf} {k : Nat} {y q : Pf} (hk : k ≤ S.length) : (S.take k ++ y :: S.drop k).set k q = S.take k ++ q :: S.drop k := by
  have hl : (S.take k).length = k := by rw [List.length_take]; omega
  rw [List.set_append_right _ _ (by omega), hl, Nat.sub_self, List.set_cons_zero]
theorem Try.fourP9 : Four Try.prog 24 31 := ⟨Try.underlying24, by kernel_rfl⟩
theorem ownR_some {t : TypeId} {w : World} {B n c : Nat} {a : Option Addr} {ps : List Pf} (h : OwnR t w B (.slice a n c) ps) (hn : 0 < n) : ∃ g, a = some ⟨g, 0, none⟩ := by
  rcases h.2 with ⟨hv, _⟩ | ⟨g, c', cur, hv, _⟩
  · simp at hv; omega
  · simp at hv; exact ⟨g, hv.1⟩
theorem alloc_b (w : World) (o : Obj) : Below w.heap.size w (w.alloc o) := (Below.refl _ w).alloc (Nat.le_refl _) o

/-- Those kept that lie in none ahead: the last one first. -/
def winF (p q : Pf) : Bool := winB p.s p.H p.L p.b q.s q.H q.L q.b
def keepF (K : List Pf) (s : Pf) : List Pf := match K with
  | [] => [s]
  | t :: K' => if winF s t = true then t :: K' else s :: t :: K'

def kpB (K : List Pf) (s : Pf) : Bool := match K with
  | [] => true
  | t :: _ => !winB s.s s.H s.L s.b t.s t.H t.L t.b
theorem keep_yes {K : List Pf} {s : Pf} (h : kpB K s = true) : keepF K s = s :: K := by
  cases K with
  | nil => rfl
  | cons t K =>
    have h' : (!winF s t) = true := h
    unfold keepF
    simp only
    rw [if_neg (by simpa using h')]
theorem keep_no {K : List Pf} {s : Pf} (h : kpB K s = false) : keepF K s = K := by
  cases K with
  | nil => cases h
  | cons t K =>
    have h' : (!winF s t) = false := h
    unfold keepF
    simp only
    rw [if_pos (by simpa using h')]
theorem keepF_len : ∀ (S K : List Pf), (S.foldl keepF K).length ≤ S.length + K.length
  | [], K => by simp
  | s :: S, K => by
    rw [List.foldl_cons]
    have h := keepF_len S (keepF K s)
    have h2 : (keepF K s).length ≤ K.length + 1 := by
      cases hk : kpB K s
      · rw [keep_no hk]; omega
      · rw [keep_yes hk]; simp
    simp; omega

set_option maxRecDepth 10000 in
set_option maxHeartbeats 16000000 in
theorem l2Sorted_any (ps : List Pf) (hok : ∀ p ∈ ps, okS p) (a : Option Addr) (n cap : Nat) (hn : n = ps.length) (hl : n ≤ 1000) (w : World) (hB : Row w a ps) :
    Calls Try.prog 34 #[.slice a n cap] w fun e w' => ∃ (S : List Pf) (a' : Option Addr) (n' c' : Nat), S.Perm ps ∧ Sr2 S ∧ n' = (S.foldl keepF []).length ∧ e = .returned (.slice a' n' c') ∧ OwnR 31 w' w.heap.size (.slice a' n' c') (S.foldl keepF []).reverse ∧ Below w.heap.size w w' := by
  have HB := hidP hB
  have HK := hidP hok
  have HN := hidP hn
  clear hB hok hn
  have HZ := hidP (own_zero w w.heap.size 31 (Nat.le_refl _))
  have HZB := hidP (alloc_b w (.cells #[] 31))
  go_enter Try.func34, Try.ntmps34
  go_wp2_with fail
  generalize w.alloc (.cells #[] 31) = W1 at *
  go_loopw [3, 4] (fun t3 t4 wr => ∃ (a3 : Option Addr) (c3 i : Nat) (S : List Pf), t3 = .slice a3 i c3 ∧ t4 = .int .i64 i ∧ i ≤ n ∧ S.Perm (ps.take i) ∧ Sr2 S ∧ OwnR 31 wr w.heap.size (.slice a3 i c3) S ∧ Below w.heap.size w wr) (fun _ t4 _ => n - (intOf t4).toNat)
  case atStart => exact ⟨_, 0, 0, [], rfl, rfl, Nat.zero_le _, List.Perm.refl _, List.Pairwise.nil, HZ.out, HZB.out⟩
  case round =>
    obtain ⟨a3, c3, i, S, rfl, rfl, hi, hpm, hsr, hown, hbl⟩ := hrel
    have HP := hidP (And.intro hpm hsr)
    have HO := hidP hown
    have HBl := hidP hbl
    have HSl := hidP (show i = S.length from hown.caps.1)
    clear hpm hsr hown hbl HZ HZB
    by_cases hlt : i < n
    · obtain ⟨p, o, xe, rfl, hpl, hx, x0, x1, x2, x3⟩ := HB.out i (by rw [← HN.out]; exact hlt)
      have hxo : okS xe := HK.out xe (List.mem_of_getElem? hx)
      have HX := hidP (And.intro hx hxo)
      have hin : (i : Int) < (n : Int) := by omega
      have y0 := (HBl.out.cell hpl).trans x0
      have y1 := (HBl.out.cell hpl).trans x1
      have y2 := (HBl.out.cell hpl).trans x2
      have y3 := (HBl.out.cell hpl).trans x3
      have hpl2 : p < wr.heap.size := Nat.lt_of_lt_of_le hpl HBl.out.size
      clear hx hxo
      go_wp2_with (at_builtin; refine stp9 ?_)
      unfold Stp9
      have hba := alloc_b wr (.cells #[.bool xe.s, .int .i64 xe.H.toInt, .int .i64 xe.L.toInt, .int .i64 xe.b] 31)
      have HSr := hidP (src_row (P := Try.prog) Try.fourP9 1 1 rfl (row_one wr 31 xe) (fun h => by cases h))
      have HO2 := hidP (HO.out.later hba)
      have HB2 := hidP (HBl.out.trans (hba.mono HBl.out.size))
      refine wpList_appR Try.fourP9 _ rfl (.tmp 17) (.tmp 22) 24 rfl w.heap.size a3 i c3 1 S [xe] (.slice (some ⟨wr.heap.size, 0, none⟩) 1 1) rfl HSl.out rfl HO2.out rfl HSr.out (by omega) (by have := HB2.out.size; exact this) ?_
      intro a9 c9 w9 ho9 hg9 ht9
      have hB9 := HB2.out.grown hg9 HB2.out.size (fun k hk => (HO2.out.lt k hk).1)
      obtain ⟨g9, rfl⟩ := ownR_some ho9 (by omega)
      have HB9 := hidP hB9
      have HO9 := hidP ho9
      clear ho9 hg9 ht9 hB9 hba y0 y1 y2 y3 HSr HO2 HB2 HO
      go_wp2_with fail
      go_loopw [5] (fun t5 wq => ∃ (k : Nat) (y : Pf), t5 = .int .i64 k ∧ k ≤ i ∧ (∀ z ∈ S.drop k, 0 < cmpF z xe) ∧ OwnR 31 wq w.heap.size (.slice (some ⟨g9, 0, none⟩) (i + 1) c9) (S.take k ++ y :: S.drop k) ∧ Below w.heap.size w wq) (fun t5 _ => (intOf t5).toNat)
      case atStart =>
        refine ⟨i, xe, rfl, Nat.le_refl _, fun z hz => ?_, ?_, HB9.out⟩
        · rw [HSl.out, List.drop_length] at hz; cases hz
        · have h := HO9.out
          rw [HSl.out, List.take_length, List.drop_length]
          exact HSl.out ▸ h
      case round =>
        obtain ⟨k, y, rfl, hk, hgt, hown, hbl⟩ := hrel
        have HGt := hidP hgt
        have HOq := hidP hown
        have HBq := hidP hbl
        have hgl := (hown.lt g9 rfl).2
        have y0 := (hbl.cell hpl).trans x0
        have y1 := (hbl.cell hpl).trans x1
        have y2 := (hbl.cell hpl).trans x2
        have y3 := (hbl.cell hpl).trans x3
        have hpl3 : p < wr.heap.size := Nat.lt_of_lt_of_le hpl hbl.size
        clear hgt hown hbl HO9 HB9
        go_upto_region 7 with fail
        obtain ⟨wq, hwq⟩ : ∃ z, z = wr := ⟨_, rfl⟩
        rw [← hwq] at HOq HBq hgl y0 y1 y2 y3 hpl3 ⊢
        clear hwq
        go_cut [38] (fun s38 wx => s38 = .bool (insB S k xe) ∧ Below wq.heap.size wq wx)
        case first => as_aux_lemma =>
          cases k with
          | zero =>
            have HSx : Hid (∀ x, Below wq.heap.size wq x → (x.cell? ⟨p, o + i * 4, none⟩ = some (.bool xe.s) ∧ x.cell? ⟨p, o + i * 4 + 1, none⟩ = some (.int .i64 xe.H.toInt) ∧ x.cell? ⟨p, o + i * 4 + 2, none⟩ = some (.int .i64 xe.L.toInt) ∧ x.cell? ⟨p, o + i * 4 + 3, none⟩ = some (.int .i64 xe.b) ∧ Below wq.heap.size wq x)) := hidP fun x h =>
              ⟨(h.cell hpl3).trans y0, (h.cell hpl3).trans y1, (h.cell hpl3).trans y2, (h.cell hpl3).trans y3, h⟩
            refine wp_region_held_drew (S := (fun x => x.cell? ⟨p, o + i * 4, none⟩ = some (.bool xe.s) ∧ x.cell? ⟨p, o + i * 4 + 1, none⟩ = some (.int .i64 xe.H.toInt) ∧ x.cell? ⟨p, o + i * 4 + 2, none⟩ = some (.int .i64 xe.L.toInt) ∧ x.cell? ⟨p, o + i * 4 + 3, none⟩ = some (.int .i64 xe.b) ∧ Below wq.heap.size wq x)) (by kernel_rfl) ?_ (fun hHeld => ?_)
            · try dsimp only
              exact HSx.out _ ((Below.refl _ _).drew)
            refine tk 0 24 rfl ?_
            simp only [pa]
            refine tk 1 25 rfl ?_
            simp only [pa]
            refine tk 2 26 rfl ?_
            simp only [pa]
            refine sk 3 27 rfl ?_
            simp only [pa]
            refine sk 4 28 rfl ?_
            simp only [pa]
            refine sk 5 29 rfl ?_
            simp only [pa]
            refine sk 6 30 rfl ?_
            simp only [pa]
            refine sk 7 31 rfl ?_
            simp only [pa]
            refine sk 8 32 rfl ?_
            simp only [pa]
            refine sk 9 33 rfl ?_
            simp only [pa]
            refine sk 10 34 rfl ?_
            simp only [pa]
            refine sk 11 35 rfl ?_
            simp only [pa]
            refine sk 12 36 rfl ?_
            simp only [pa]
            refine sk 13 37 rfl ?_
            simp only [pa]
            refine tk 14 38 rfl ?_
            simp only [pa]
            have HE := hidP (hHeld.2.2.2.2)
            refine wpAnyH_done (by kernel_rfl) ?_ _
            clear hHeld
            have HE2 := hidP HE.out
            clear HE y0 y1 y2 y3
            go_wp2_with fail
            go_meet
            case rel => exact ⟨rfl, HE2.out⟩
          | succ m =>
            have hms : m < S.length := by rw [← HSl.out]; omega
            obtain ⟨q, hq⟩ : ∃ q, S[m]? = some q := ⟨_, List.getElem?_eq_getElem hms⟩
            have hqA : okS q := HK.out q (List.mem_of_mem_take (HP.out.1.mem_iff.1 (List.mem_of_getElem? hq)))
            have HCm := hidP (fun W => cmpF_any q xe hqA HX.out.2 W)
            have hib : insB S (m + 1) xe = decide (0 < cmpF q xe) := by unfold insB; simp only; rw [hq]
            generalize cmpF q xe = r at *
            have HIb := hidP hib
            obtain ⟨z0, z1, z2, z3⟩ := HOq.out.atk m q (row_at hms hq)
            have e0 : IntKind.i64.wrap (m : Int) = (m : Int) := by rw [IntKind.wrap_i64]; omega
            have e8 : 0 ≤ (m : Int) := by omega
            have e2 : IntKind.i64.wrap ((m : Int) + 1 - 1) = (m : Int) := by rw [IntKind.wrap_i64]; omega
            have e5 : decide ((0 : Int) < (m : Int) + 1) = true := decide_eq_true (by omega)
            have e6 : (m : Int) < (i : Int) + 1 := by omega
            have e7 : m < i + 1 := by omega
            have e9 : 0 < m + 1 := by omega
            clear hq hqA hib hms
            have HSx : Hid (∀ x, Below wq.heap.size wq x → (x.cell? ⟨p, o + i * 4, none⟩ = some (.bool xe.s) ∧ x.cell? ⟨p, o + i * 4 + 1, none⟩ = some (.int .i64 xe.H.toInt) ∧ x.cell? ⟨p, o + i * 4 + 2, none⟩ = some (.int .i64 xe.L.toInt) ∧ x.cell? ⟨p, o + i * 4 + 3, none⟩ = some (.int .i64 xe.b) ∧ x.cell? ⟨g9, m * 4, none⟩ = some (.bool q.s) ∧ x.cell? ⟨g9, m * 4 + 1, none⟩ = some (.int .i64 q.H.toInt) ∧ x.cell? ⟨g9, m * 4 + 2, none⟩ = some (.int .i64 q.L.toInt) ∧ x.cell? ⟨g9, m * 4 + 3, none⟩ = some (.int .i64 q.b) ∧ Below wq.heap.size wq x)) := hidP fun x h =>
              ⟨(h.cell hpl3).trans y0, (h.cell hpl3).trans y1, (h.cell hpl3).trans y2, (h.cell hpl3).trans y3, (h.cell hgl).trans z0, (h.cell hgl).trans z1, (h.cell hgl).trans z2, (h.cell hgl).trans z3, h⟩
            refine wp_region_held_drew (S := (fun x => x.cell? ⟨p, o + i * 4, none⟩ = some (.bool xe.s) ∧ x.cell? ⟨p, o + i * 4 + 1, none⟩ = some (.int .i64 xe.H.toInt) ∧ x.cell? ⟨p, o + i * 4 + 2, none⟩ = some (.int .i64 xe.L.toInt) ∧ x.cell? ⟨p, o + i * 4 + 3, none⟩ = some (.int .i64 xe.b) ∧ x.cell? ⟨g9, m * 4, none⟩ = some (.bool q.s) ∧ x.cell? ⟨g9, m * 4 + 1, none⟩ = some (.int .i64 q.H.toInt) ∧ x.cell? ⟨g9, m * 4 + 2, none⟩ = some (.int .i64 q.L.toInt) ∧ x.cell? ⟨g9, m * 4 + 3, none⟩ = some (.int .i64 q.b) ∧ Below wq.heap.size wq x)) (by kernel_rfl) ?_ (fun hHeld => ?_)
            · try dsimp only
              exact HSx.out _ ((Below.refl _ _).drew)
            refine tk 0 24 rfl ?_
            simp only [pa]
            refine tk 1 25 rfl ?_
            simp only [pa]
            refine tk 2 26 rfl ?_
            simp only [pa]
            refine tk 3 27 rfl ?_
            simp only [pa]
            refine tk 4 28 rfl ?_
            simp only [pa]
            refine tk 5 29 rfl ?_
            simp only [pa]
            refine tk 6 30 rfl ?_
            simp only [pa]
            refine tk 7 31 rfl ?_
            simp only [pa]
            refine tk 8 32 rfl ?_
            simp only [pa]
            refine tk 9 33 rfl ?_
            simp only [pa]
            refine tk 10 34 rfl ?_
            simp only [pa]
            refine tk 11 35 rfl ?_
            simp only [pa]
            refine wpAnyH_ready (rs := [12]) (by kernel_rfl) (by simp) ?_
            refine AllReadyH.cons rfl (fun K hK => ?_) AllReadyH.nil
            go_simp
            go_wp2_with (first | (go_at_call 65; refine (HCm.out _).mono ?_; rintro e w5 ⟨rfl, hb5⟩; have b5 := (hHeld.2.2.2.2.2.2.2.2).trans (hb5.mono (hHeld.2.2.2.2.2.2.2.2).size)))
            refine hK.out _ _ ?_ (fun hHeld => ?_)
            · try dsimp only
              exact HSx.out _ b5
            clear hK K
            refine tk 13 37 rfl ?_
            simp only [pa]
            refine tk 14 38 rfl ?_
            simp only [pa]
            have HE := hidP (hHeld.2.2.2.2.2.2.2.2)
            refine wpAnyH_done (by kernel_rfl) ?_ _
            clear hHeld
            have HE2 := hidP HE.out
            clear HE y0 y1 y2 y3 z0 z1 z2 z3
            go_wp2_with fail
            go_meet
            case rel => exact ⟨by rw [HIb.out], HE2.out⟩
        obtain ⟨rfl, hbq⟩ := hcut
        obtain ⟨W4, hW4⟩ : ∃ z, z = wc := ⟨_, rfl⟩
        rw [← hW4] at hbq ⊢
        clear hW4
        have hgl4 : g9 < W4.heap.size := Nat.lt_of_lt_of_le hgl hbq.size
        have HO4 := hidP (HOq.out.later hbq)
        have HB4 := hidP (HBq.out.trans (hbq.mono HBq.out.size))
        have v0 := (hbq.cell hpl3).trans y0
        have v1 := (hbq.cell hpl3).trans y1
        have v2 := (hbq.cell hpl3).trans y2
        have v3 := (hbq.cell hpl3).trans y3
        have hpl4 : p < W4.heap.size := Nat.lt_of_lt_of_le hpl3 hbq.size
        clear hbq HOq HBq y0 y1 y2 y3 hgl hpl3
        have hwg : w.heap.size ≤ g9 := (HO4.out.lt g9 rfl).1
        cases hib : insB S k xe
        · have hstop : k = 0 ∨ ∃ y, S[k - 1]? = some y ∧ ¬ 0 < cmpF y xe := by
            cases k with
            | zero => exact Or.inl rfl
            | succ m =>
              right
              have hms : m < S.length := by rw [← HSl.out]; omega
              refine ⟨S[m], List.getElem?_eq_getElem hms, ?_⟩
              unfold insB at hib
              simp only [List.getElem?_eq_getElem hms] at hib
              simpa using hib
          have HSt := hidP hstop
          have hki : k < i + 1 := by omega
          have hki2 : (k : Int) < (i : Int) + 1 := by omega
          have HLn := hidP (show i + 1 = (S.take k ++ y :: S.drop k).length by rw [List.length_append, List.length_cons, List.length_take, List.length_drop, ← HSl.out]; omega)
          obtain ⟨⟨f0, f1, f2, f3⟩, hput⟩ := HO4.out.put HLn.out k hki
          have HPt := hidP (hput xe)
          obtain ⟨u0, u1, u2, u3⟩ := HO4.out.atk k y (row_y (by rw [← HSl.out]; exact hk))
          clear hstop hib hput
          have nP : ¬ (p = g9) := by omega
          have nP2 : ¬ (g9 = p) := by omega
          go_wp2_with fail
          go_roundw
          case rel =>
            have hpt := HPt.out
            rw [row_put (by rw [← HSl.out]; exact hk)] at hpt
            refine ⟨_, c9, i + 1, S.take k ++ xe :: S.drop k, rfl, by go_num, by omega, ?_, ins_srt HP.out.2 (by rw [← HSl.out]; exact hk) HSt.out HGt.out, hpt, ?_⟩
            · rw [List.take_add_one, HX.out.1]
              have h1 : (S.take k ++ xe :: S.drop k).Perm (xe :: (S.take k ++ S.drop k)) := List.perm_middle
              rw [List.take_append_drop] at h1
              refine h1.trans ?_
              exact (List.Perm.cons xe HP.out.1).trans (by simpa using (List.perm_append_singleton xe (ps.take i)).symm)
            · exact (((HB4.out.setCell hwg _).setCell hwg _).setCell hwg _).setCell hwg _
          case measure => simp [intOf]; omega
        · cases k with
          | zero => cases hib
          | succ m =>
            have hms : m < S.length := by rw [← HSl.out]; omega
            obtain ⟨q, hq⟩ : ∃ q, S[m]? = some q := ⟨_, List.getElem?_eq_getElem hms⟩
            have hcq : 0 < cmpF q xe := by
              unfold insB at hib
              simp only [hq] at hib
              simpa using hib
            have HQ := hidP (And.intro hq (And.intro hcq hms))
            obtain ⟨z0, z1, z2, z3⟩ := HO4.out.atk m q (row_at hms hq)
            have HLn := hidP (show i + 1 = (S.take (m + 1) ++ y :: S.drop (m + 1)).length by rw [List.length_append, List.length_cons, List.length_take, List.length_drop, ← HSl.out]; omega)
            obtain ⟨⟨f0, f1, f2, f3⟩, hput⟩ := HO4.out.put HLn.out (m + 1) (by omega)
            have HPt := hidP (hput q)
            obtain ⟨u0, u1, u2, u3⟩ := HO4.out.atk (m + 1) y (row_y hms)
            have e0 : IntKind.i64.wrap (m : Int) = (m : Int) := by rw [IntKind.wrap_i64]; omega
            have e8 : 0 ≤ (m : Int) := by omega
            have e2 : IntKind.i64.wrap ((m : Int) + 1 - 1) = (m : Int) := by rw [IntKind.wrap_i64]; omega
            have e6 : (m : Int) < (i : Int) + 1 := by omega
            have e7 : m < i + 1 := by omega
            have e9 : (m : Int) + 1 < (i : Int) + 1 := by omega
            clear hq hcq hms hput hib
            go_wp2_with fail
            go_roundw
            case rel =>
              have hpt := HPt.out
              rw [row_mid HQ.out.2.2 HQ.out.1] at hpt
              refine ⟨m, q, by go_num, by omega, fun z hz => ?_, hpt, ?_⟩
              · rw [List.drop_eq_getElem_cons HQ.out.2.2] at hz
                rcases List.mem_cons.1 hz with h | h
                · have h1 := HQ.out.1
                  rw [List.getElem?_eq_getElem HQ.out.2.2] at h1
                  rw [h, Option.some.inj h1]; exact HQ.out.2.1
                · exact HGt.out z h
              · exact (((HB4.out.setCell hwg _).setCell hwg _).setCell hwg _).setCell hwg _
            case measure => simp [intOf]
    · have hin : i = n := by omega
      subst hin
      have hpm : S.Perm ps := by
        have h := HP.out.1
        rwa [List.take_of_length_le (by rw [← HN.out]; exact Nat.le_refl _)] at h
      have HSF := hidP (And.intro hpm HP.out.2)
      clear hpm HP HB HK HN
      go_wp2_with fail
      obtain ⟨W5, hW5⟩ : ∃ z, z = wr := ⟨_, rfl⟩
      rw [← hW5] at HO HBl ⊢
      clear hW5
      have HZ := hidP (own_zero W5 W5.heap.size 31 (Nat.le_refl _))
      have HZB := hidP (alloc_b W5 (.cells #[] 31))
      generalize W5.alloc (.cells #[] 31) = W6 at *
      go_loopw [6, 7] (fun t6 t7 wq => ∃ (a6 : Option Addr) (k6 c6 j : Nat), t6 = .slice a6 k6 c6 ∧ t7 = .int .i64 j ∧ j ≤ i ∧ OwnR 31 wq W5.heap.size (.slice a6 k6 c6) ((S.take j).foldl keepF []).reverse ∧ Below W5.heap.size W5 wq) (fun _ t7 _ => i - (intOf t7).toNat)
      case atStart => exact ⟨_, 0, 0, 0, rfl, rfl, Nat.zero_le _, HZ.out, HZB.out⟩
      case round =>
        obtain ⟨a6, k6, c6, j, rfl, rfl, hj, ho, hb⟩ := hrel
        obtain ⟨wq, hwq⟩ : ∃ z, z = wr := ⟨_, rfl⟩
        rw [← hwq] at ho hb ⊢
        clear hwq HZ HZB
        have HO6 := hidP ho
        have HB6 := hidP hb
        have hk6 : k6 = ((S.take j).foldl keepF []).length := by rw [ho.caps.1, List.length_reverse]
        have hkj : k6 ≤ j := by rw [hk6]; exact Nat.le_trans (keepF_len _ _) (by rw [List.length_take]; simp; omega)
        have HK6 := hidP hk6
        clear ho hb hk6
        by_cases hlt2 : j < i
        · have hjs : j < S.length := by rw [← HSl.out]; exact hlt2
          obtain ⟨es, hes⟩ : ∃ es, S[j]? = some es := ⟨_, List.getElem?_eq_getElem hjs⟩
          obtain ⟨g3, rfl⟩ := ownR_some HO.out (by omega)
          obtain ⟨y0, y1, y2, y3⟩ := (HO.out.later HB6.out).atk j es hes
          have hgl : g3 < wq.heap.size := Nat.lt_of_lt_of_le (HO.out.lt g3 rfl).2 HB6.out.size
          have HES := hidP hes
          have hji : (j : Int) < (i : Int) := by omega
          clear hes hjs
          obtain ⟨K, hK⟩ : ∃ K, K = (S.take j).foldl keepF [] := ⟨_, rfl⟩
          rw [← hK] at HO6 HK6
          have HKK := hidP hK
          clear hK
          go_upto_region 15 with fail
          go_cut [79] (fun s79 wx => s79 = .bool (kpB K es) ∧ Below wq.heap.size wq wx)
          case first => as_aux_lemma =>
            cases K with
            | nil =>
              have hk0 : k6 = 0 := HK6.out
              subst hk0
              have HSx : Hid (∀ x, Below wq.heap.size wq x → (x.cell? ⟨g3, j * 4, none⟩ = some (.bool es.s) ∧ x.cell? ⟨g3, j * 4 + 1, none⟩ = some (.int .i64 es.H.toInt) ∧ x.cell? ⟨g3, j * 4 + 2, none⟩ = some (.int .i64 es.L.toInt) ∧ x.cell? ⟨g3, j * 4 + 3, none⟩ = some (.int .i64 es.b) ∧ Below wq.heap.size wq x)) := hidP fun x h =>
                ⟨(h.cell hgl).trans y0, (h.cell hgl).trans y1, (h.cell hgl).trans y2, (h.cell hgl).trans y3, h⟩
              refine wp_region_held_drew (S := (fun x => x.cell? ⟨g3, j * 4, none⟩ = some (.bool es.s) ∧ x.cell? ⟨g3, j * 4 + 1, none⟩ = some (.int .i64 es.H.toInt) ∧ x.cell? ⟨g3, j * 4 + 2, none⟩ = some (.int .i64 es.L.toInt) ∧ x.cell? ⟨g3, j * 4 + 3, none⟩ = some (.int .i64 es.b) ∧ Below wq.heap.size wq x)) (by kernel_rfl) ?_ (fun hHeld => ?_)
              · try dsimp only
                exact HSx.out _ ((Below.refl _ _).drew)
              refine tk 0 63 rfl ?_
              simp only [pa]
              refine tk 1 64 rfl ?_
              simp only [pa]
              refine tk 2 65 rfl ?_
              simp only [pa]
              refine tk 3 66 rfl ?_
              simp only [pa]
              refine sk 4 67 rfl ?_
              simp only [pa]
              refine sk 5 68 rfl ?_
              simp only [pa]
              refine sk 6 69 rfl ?_
              simp only [pa]
              refine sk 7 70 rfl ?_
              simp only [pa]
              refine sk 8 71 rfl ?_
              simp only [pa]
              refine sk 9 72 rfl ?_
              simp only [pa]
              refine sk 10 73 rfl ?_
              simp only [pa]
              refine sk 11 74 rfl ?_
              simp only [pa]
              refine sk 12 75 rfl ?_
              simp only [pa]
              refine sk 13 76 rfl ?_
              simp only [pa]
              refine sk 14 77 rfl ?_
              simp only [pa]
              refine sk 15 78 rfl ?_
              simp only [pa]
              refine tk 16 79 rfl ?_
              simp only [pa]
              have HE := hidP (hHeld.2.2.2.2)
              refine wpAnyH_done (by kernel_rfl) ?_ _
              clear hHeld
              have HE2 := hidP HE.out
              clear HE y0 y1 y2 y3
              go_wp2_with fail
              go_meet
              case rel => exact ⟨rfl, HE2.out⟩
            | cons et K2 =>
              obtain ⟨m, hm⟩ : ∃ m, m = K2.length := ⟨_, rfl⟩
              have hkm : k6 = m + 1 := by rw [HK6.out, hm]; rfl
              subst hkm
              obtain ⟨g6, rfl⟩ := ownR_some HO6.out (by omega)
              have hat : ((et :: K2).reverse)[m]? = some et := by
                rw [List.reverse_cons, List.getElem?_append_right (by simp [hm]), List.length_reverse, hm, Nat.sub_self]; rfl
              obtain ⟨z0, z1, z2, z3⟩ := HO6.out.atk m et hat
              have hgl6 := (HO6.out.lt g6 rfl).2
              have HWi := hidP (fun W => sWithin_any es.s es.H es.L es.b et.s et.H et.L et.b W)
              have hkb : kpB (et :: K2) es = !winB es.s es.H es.L es.b et.s et.H et.L et.b := rfl
              generalize winB es.s es.H es.L es.b et.s et.H et.L et.b = r at *
              have HKb := hidP hkb
              have e0 : IntKind.i64.wrap (m : Int) = (m : Int) := by rw [IntKind.wrap_i64]; omega
              have e8 : 0 ≤ (m : Int) := by omega
              have e2 : IntKind.i64.wrap ((m : Int) + 1 - 1) = (m : Int) := by rw [IntKind.wrap_i64]; omega
              have e5 : ((m : Int) + 1 == 0) = false := by rw [beq_eq_false_iff_ne]; omega
              have e6 : (m : Int) < (m : Int) + 1 := by omega
              have e7 : m < m + 1 := by omega
              have e9 : ¬ (m : Int) + 1 = 0 := by omega
              clear hat hm hkb
              have HSx : Hid (∀ x, Below wq.heap.size wq x → (x.cell? ⟨g3, j * 4, none⟩ = some (.bool es.s) ∧ x.cell? ⟨g3, j * 4 + 1, none⟩ = some (.int .i64 es.H.toInt) ∧ x.cell? ⟨g3, j * 4 + 2, none⟩ = some (.int .i64 es.L.toInt) ∧ x.cell? ⟨g3, j * 4 + 3, none⟩ = some (.int .i64 es.b) ∧ x.cell? ⟨g6, m * 4, none⟩ = some (.bool et.s) ∧ x.cell? ⟨g6, m * 4 + 1, none⟩ = some (.int .i64 et.H.toInt) ∧ x.cell? ⟨g6, m * 4 + 2, none⟩ = some (.int .i64 et.L.toInt) ∧ x.cell? ⟨g6, m * 4 + 3, none⟩ = some (.int .i64 et.b) ∧ Below wq.heap.size wq x)) := hidP fun x h =>
                ⟨(h.cell hgl).trans y0, (h.cell hgl).trans y1, (h.cell hgl).trans y2, (h.cell hgl).trans y3, (h.cell hgl6).trans z0, (h.cell hgl6).trans z1, (h.cell hgl6).trans z2, (h.cell hgl6).trans z3, h⟩
              refine wp_region_held_drew (S := (fun x => x.cell? ⟨g3, j * 4, none⟩ = some (.bool es.s) ∧ x.cell? ⟨g3, j * 4 + 1, none⟩ = some (.int .i64 es.H.toInt) ∧ x.cell? ⟨g3, j * 4 + 2, none⟩ = some (.int .i64 es.L.toInt) ∧ x.cell? ⟨g3, j * 4 + 3, none⟩ = some (.int .i64 es.b) ∧ x.cell? ⟨g6, m * 4, none⟩ = some (.bool et.s) ∧ x.cell? ⟨g6, m * 4 + 1, none⟩ = some (.int .i64 et.H.toInt) ∧ x.cell? ⟨g6, m * 4 + 2, none⟩ = some (.int .i64 et.L.toInt) ∧ x.cell? ⟨g6, m * 4 + 3, none⟩ = some (.int .i64 et.b) ∧ Below wq.heap.size wq x)) (by kernel_rfl) ?_ (fun hHeld => ?_)
              · try dsimp only
                exact HSx.out _ ((Below.refl _ _).drew)
              refine tk 0 63 rfl ?_
              simp only [pa]
              refine tk 1 64 rfl ?_
              simp only [pa]
              refine tk 2 65 rfl ?_
              simp only [pa]
              refine tk 3 66 rfl ?_
              simp only [pa]
              refine tk 4 67 rfl ?_
              simp only [pa]
              refine tk 5 68 rfl ?_
              simp only [pa]
              refine tk 6 69 rfl ?_
              simp only [pa]
              refine tk 7 70 rfl ?_
              simp only [pa]
              refine tk 8 71 rfl ?_
              simp only [pa]
              refine tk 9 72 rfl ?_
              simp only [pa]
              refine tk 10 73 rfl ?_
              simp only [pa]
              refine tk 11 74 rfl ?_
              simp only [pa]
              refine tk 12 75 rfl ?_
              simp only [pa]
              refine tk 13 76 rfl ?_
              simp only [pa]
              refine wpAnyH_ready (rs := [14]) (by kernel_rfl) (by simp) ?_
              refine AllReadyH.cons rfl (fun K hK => ?_) AllReadyH.nil
              go_simp
              go_wp2_with (first | (go_at_call 66; refine (HWi.out _).mono ?_; rintro e w5 ⟨rfl, hb5⟩; have b5 := (hHeld.2.2.2.2.2.2.2.2).trans (hb5.mono (hHeld.2.2.2.2.2.2.2.2).size)))
              refine hK.out _ _ ?_ (fun hHeld => ?_)
              · try dsimp only
                exact HSx.out _ b5
              clear hK K
              refine tk 15 78 rfl ?_
              simp only [pa]
              refine tk 16 79 rfl ?_
              simp only [pa]
              have HE := hidP (hHeld.2.2.2.2.2.2.2.2)
              refine wpAnyH_done (by kernel_rfl) ?_ _
              clear hHeld
              have HE2 := hidP HE.out
              clear HE y0 y1 y2 y3 z0 z1 z2 z3
              go_wp2_with fail
              go_meet
              case rel => exact ⟨by rw [HKb.out], HE2.out⟩
          obtain ⟨rfl, hbq⟩ := hcut
          obtain ⟨W7, hW7⟩ : ∃ z, z = wc := ⟨_, rfl⟩
          rw [← hW7] at hbq ⊢
          clear hW7
          have HO7 := hidP (HO6.out.later hbq)
          have HB7 := hidP (HB6.out.trans (hbq.mono HB6.out.size))
          have v0 := (hbq.cell hgl).trans y0
          have v1 := (hbq.cell hgl).trans y1
          have v2 := (hbq.cell hgl).trans y2
          have v3 := (hbq.cell hgl).trans y3
          have hgl7 : g3 < W7.heap.size := Nat.lt_of_lt_of_le hgl hbq.size
          have HST := hidP (show (S.take (j + 1)).foldl keepF [] = keepF K es by rw [List.take_add_one, HES.out, List.foldl_append, ← HKK.out]; rfl)
          clear hbq HO6 HB6 y0 y1 y2 y3 hgl
          cases hkb : kpB K es
          · have HKp := hidP (keep_no hkb)
            clear hkb
            go_wp2_with fail
            go_roundw
            case rel => exact ⟨a6, k6, c6, j + 1, rfl, by go_num, by omega, by rw [HST.out, HKp.out]; exact HO7.out, HB7.out⟩
            case measure => simp [intOf]; omega
          · have HKp := hidP (keep_yes hkb)
            have HKr := hidP (show k6 = K.reverse.length by rw [HK6.out, List.length_reverse])
            clear hkb
            go_wp2_with (at_builtin; refine stp9 ?_)
            unfold Stp9
            have hba := alloc_b W7 (.cells #[.bool es.s, .int .i64 es.H.toInt, .int .i64 es.L.toInt, .int .i64 es.b] 31)
            have HSr := hidP (src_row (P := Try.prog) Try.fourP9 1 1 rfl (row_one W7 31 es) (fun h => by cases h))
            have HO8 := hidP (HO7.out.later hba)
            have HB8 := hidP (HB7.out.trans (hba.mono HB7.out.size))
            refine wpList_appR Try.fourP9 _ rfl (.tmp 80) (.tmp 85) 24 rfl W5.heap.size a6 k6 c6 1 K.reverse [es] (.slice (some ⟨W7.heap.size, 0, none⟩) 1 1) rfl HKr.out rfl HO8.out rfl HSr.out (by omega) (by have := HB8.out.size; exact this) ?_
            intro a9 c9 w9 ho9 hg9 ht9
            have HB9 := hidP (HB8.out.grown hg9 HB8.out.size (fun k hk => (HO8.out.lt k hk).1))
            have HO9 := hidP ho9
            clear ho9 hg9 ht9 hba v0 v1 v2 v3 HSr HO8 HB8
            go_wp2_with fail
            go_roundw
            case rel => exact ⟨a9, k6 + 1, c9, j + 1, rfl, by go_num, by omega, by rw [HST.out, HKp.out, List.reverse_cons]; exact HO9.out, HB9.out⟩
            case measure => simp [intOf]; omega
        · have hji : j = i := by omega
          subst hji
          have htk : S.take j = S := List.take_of_length_le (by rw [← HSl.out]; exact Nat.le_refl _)
          have h6 := HO6.out
          rw [htk] at h6
          have hk := HK6.out
          rw [htk] at hk
          have HF := hidP (And.intro h6 hk)
          clear h6 hk htk
          go_wp2_with fail
          go_ret
          exact ⟨S, a6, k6, c6, HSF.out.1, HSF.out.2, HF.out.2, rfl, OwnR.mono HF.out.1 HBl.out.size, HBl.out.trans (HB6.out.mono HBl.out.size)⟩

end Go.Proofs.Ytgohffeneibhdaa
