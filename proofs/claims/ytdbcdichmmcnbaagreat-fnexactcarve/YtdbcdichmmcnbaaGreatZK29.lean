/-
  The program's leftOf: a function value that hands out what is left, one by one.
-/
import Derived.Test.YtdbcdichmmcnbaaGreatZK28
import Derived.Test.YtdbcdichmmcnbaaGreatZK27
namespace Go.Proofs.YtdbcdichmmcnbaaGreat
open Go.RowKit

/-- The four cells of a box. -/
def Box4 (w : World) (B : Nat) (p : Pf) : Prop := w.cell? ⟨B, 0, none⟩ = some (.bool p.s) ∧ w.cell? ⟨B, 1, none⟩ = some (.int .i64 p.H.toInt) ∧ w.cell? ⟨B, 2, none⟩ = some (.int .i64 p.L.toInt) ∧ w.cell? ⟨B, 3, none⟩ = some (.int .i64 p.b)
theorem Box4.kpt {w w' : World} {M : Nat → Prop} {B : Nat} {p : Pf} (h : Box4 w B p) (hk : Kpt M w w') (hB : B < w.heap.size) (hm : M B) : Box4 w' B p :=
  have e : ∀ i, w'.cell? ⟨B, i, none⟩ = w.cell? ⟨B, i, none⟩ := fun _ => World.cell?_of_block (hk.block B hB hm)
  ⟨(e _).trans h.1, (e _).trans h.2.1, (e _).trans h.2.2.1, (e _).trans h.2.2.2⟩
theorem Box4.later {w w' : World} {B : Nat} {p : Pf} (h : Box4 w B p) (hk : Below w.heap.size w w') (hB : B < w.heap.size) : Box4 w' B p := h.kpt (Kpt.ofBelow (fun _ => True) hk) hB trivial

/-- The program's leftOf, of p and a row, hands out ys. -/
def LeftGives (p : Pf) (a : Option Addr) (n cap : Nat) (w0 : World) (ys : List Sp) : Prop := ∀ (w : World) (Bp Bl : Nat), Below w0.heap.size w0 w → Box4 w Bp p → w.cell? ⟨Bl, 0, none⟩ = some (.slice a n cap) → Bp < w.heap.size → Bl < w.heap.size →
  Iter Tryz.prog 144 #[.pointer (some ⟨Bp, 0, none⟩), .pointer (some ⟨Bl, 0, none⟩)] encP ys (fun k => k < w0.heap.size ∨ k = Bp ∨ k = Bl) w

set_option maxHeartbeats 1000000 in
theorem leftOf_any (p : Pf) (a : Option Addr) (n cap : Nat) (w : World) :
    Calls Tryz.prog 121 #[.agg #[.bool p.s, .int .i64 p.H.toInt, .int .i64 p.L.toInt, .int .i64 p.b], .slice a n cap] w fun e w' => e = .returned (.func (.func 144) #[] #[.pointer (some ⟨w.heap.size, 0, none⟩), .pointer (some ⟨w.heap.size + 1, 0, none⟩)]) ∧ w' = (w.alloc (.cells #[.bool p.s, .int .i64 p.H.toInt, .int .i64 p.L.toInt, .int .i64 p.b] 31)).alloc (.cells #[.slice a n cap] 78) := by
  go_enter Tryz.func121, Tryz.ntmps121
  go_wp2
  go_ret
  exact ⟨rfl, rfl⟩

set_option maxRecDepth 10000 in
set_option maxHeartbeats 2000000 in
theorem left_yes (x : Sp) (hx : x.ok) (a : Option Addr) (cap : Nat) (xs : List Sp) (hxs : ∀ t ∈ xs, t.ok) (w0 : World) (hB : Row w0 a (xs.map Sp.pre)) (hl : xs.length ≤ 300) : LeftGives x.pre a xs.length cap w0 (leftM x.n x xs) := by
  intro w Bp Bl hw hbp hbl hp hq l J M W hk hRM hfit hA hRn hJ
  have HP := hidP (spanOf_yes x.s x.H x.L ((wd x.s : Int) - x.n) x.n (by omega) hx.pok)
  have hS : ∀ wx, Below W.heap.size W wx → Calls Tryz.prog 145 #[.slice a xs.length cap] wx fun e w' => ∃ g, e = .returned (.tuple #[.slice (some ⟨g, 0, none⟩) xs.length xs.length, .bool true]) ∧ OwnR 96 w' wx.heap.size (.slice (some ⟨g, 0, none⟩) xs.length xs.length) (xs.map Sp.spn) ∧ Below wx.heap.size wx w' := fun wx hb => by
    have hR : Row wx a (xs.map Sp.pre) := (hB.later (hw.trans ((hk.mono (N := fun k => k < w0.heap.size) fun k h => Or.inl h).below hw.size))).later hb
    have h := spansOf_short a cap (xs.map Sp.pre) wx hR (by rw [List.length_map]; exact hl)
    have hr := right_pre xs hxs hl
    unfold rightP at hr
    rw [Bool.and_eq_true] at hr
    rw [List.length_map] at h
    refine h.mono ?_
    rintro e w' ⟨h1 | h1, hb⟩
    · obtain ⟨_, g, rfl, ho⟩ := h1
      rw [sp_pre] at ho
      exact ⟨g, rfl, ho, hb⟩
    · rw [hr.1] at h1; cases h1.1
  have HS := hidP hS
  have hbW : Box4 W Bp x.pre := hbp.kpt hk hp (Or.inr (Or.inl rfl))
  have hcl : W.cell? ⟨Bl, 0, none⟩ = some (.slice a xs.length cap) := (hk.cell (p := ⟨Bl, 0, none⟩) hq (Or.inr (Or.inr rfl))).trans hbl
  have hpW : Bp < W.heap.size := Nat.lt_of_lt_of_le hp hk.size
  have hqW : Bl < W.heap.size := Nat.lt_of_lt_of_le hq hk.size
  have HE : Hid (∀ (g : Nat) (w1 : World), OwnR 96 w1 W.heap.size (.slice (some ⟨g, 0, none⟩) xs.length xs.length) (xs.map Sp.spn) → Below W.heap.size W w1 → Calls Tryz.prog 146 #[.agg #[.bool x.s, .int .i64 x.H.toInt, .int .i64 x.L.toInt, .int .i64 (x.n : Int)], .slice (some ⟨g, 0, none⟩) xs.length xs.length, .func (.yield l) #[] #[]] w1 fun e w' => ∃ b, e = .returned (.bool b) ∧ Ends J (leftM x.n x xs) (leftM x.n x xs) M W w' b) := hidP fun g w1 ho hb => by
    refine (each_all x.n x hx rfl xs hxs hl (some ⟨g, 0, none⟩) xs.length w1 ho.row l (leftM x.n x xs) J hA hRn M (fun p o h hm => ?_) (fun k hk => Nat.lt_of_lt_of_le (hfit k hk) hb.size) [] (hA _ _ _ _ _ hJ (Kpt.ofBelow _ hb)) (List.prefix_refl _)).mono ?_
    · cases h
      have h1 := (ho.lt g rfl).1
      have h2 := hfit g hm
      omega
    · rintro e w' ⟨b, rfl, pre, M', hj, hg, ht, hf⟩
      exact ⟨b, rfl, pre, M', hj, (Grw.ofBelow hb hfit).trans hg, ht, hf⟩
  obtain ⟨c0, c1, c2, c3⟩ := hbW
  dsimp only [Sp.pre] at c0 c1 c2 c3
  clear hS hbp hbl hk hRM hA hRn hJ hB hxs hx hw hp hq hfit
  obtain ⟨n, hn⟩ : ∃ n, n = xs.length := ⟨_, rfl⟩
  rw [← hn] at HS hcl HE hl
  clear hn
  go_enter Tryz.func144, Tryz.ntmps144
  go_wp2_with fail
  refine (HP.out _).mono ?_
  rintro e w2 ⟨rfl, hb2⟩
  have cl2 := (hb2.cell (p := ⟨Bl, 0, none⟩) hqW).trans hcl
  have hqW2 := Nat.lt_of_lt_of_le hqW hb2.size
  have HB2 := hidP hb2
  clear hb2 c0 c1 c2 c3 hcl
  go_wp2_with fail
  have HB3 := hidP (HB2.out.alloc HB2.out.size (.cells #[.bool x.s, .int .i64 x.H.toInt, .int .i64 x.L.toInt, .int .i64 (x.n : Int)] 96))
  obtain ⟨b0, b1, b2, b3⟩ := box_cells w2 96 ⟨x.s, x.H, x.L, (x.n : Int)⟩
  refine (HS.out _ HB3.out).mono ?_
  rintro e w3 ⟨g, rfl, ho, hb3⟩
  have lt2 : w2.heap.size < (w2.alloc (.cells #[.bool x.s, .int .i64 x.H.toInt, .int .i64 x.L.toInt, .int .i64 (x.n : Int)] 96)).heap.size := by simp
  have c0 := (hb3.cell (p := ⟨w2.heap.size, 0, none⟩) lt2).trans b0
  have c1 := (hb3.cell (p := ⟨w2.heap.size, 1, none⟩) lt2).trans b1
  have c2 := (hb3.cell (p := ⟨w2.heap.size, 2, none⟩) lt2).trans b2
  have c3 := (hb3.cell (p := ⟨w2.heap.size, 3, none⟩) lt2).trans b3
  have hlt : w2.heap.size < w3.heap.size := Nat.lt_of_lt_of_le lt2 hb3.size
  have HO := hidP (ho.mono HB3.out.size)
  have HB4 := hidP (HB3.out.trans (hb3.mono HB3.out.size))
  clear ho hb3 b0 b1 b2 b3 lt2 cl2
  go_wp2_with fail
  refine (HE.out g w3 HO.out HB4.out).mono ?_
  rintro e w4 ⟨b, rfl, h4⟩
  have H4 := hidP h4
  clear h4
  go_wp2_with fail
  go_end0
  exact ⟨⟨_, rfl⟩, b, H4.out⟩

end Go.Proofs.YtdbcdichmmcnbaaGreat
