/-
  The specification's l2Near, l2List and DrawCollapse: some prefixes, of words of 64 bits; nothing old turns but the cursor.
-/
import Derived.Test.YtgohffeneibhdaaMW2
import Derived.Test.YtgohffeneibhdaaMW1
import Derived.Test.YtgohffeneibhdaaBSHalv
import Derived.Test.YtgohffeneibhdaaBSAbov
import Derived.Test.YtgohffeneibhdaaPTo
import Derived.Test.YtgohffeneibhdaaVSr2
namespace Go.Proofs.Ytgohffeneibhdaa
open Go.RowKit

theorem Kp.below {c : Nat} {W X Y : World} (h : Kp c W X) (hc : c < W.heap.size) (k : Below X.heap.size X Y) : Kp c W Y := h.trans (Kp.of_below (Nat.lt_of_lt_of_le hc h.big) k)
theorem alloc_bN (w : World) (o : Obj) : Below w.heap.size w (w.alloc o) := (Below.refl _ w).alloc (Nat.le_refl _) o
theorem i64_bv {X : Int} (h : I64 X) : (BitVec.ofInt 64 X).toInt = X := by
  obtain ⟨h1, h2⟩ := h
  rw [BitVec.toInt_ofInt]
  simp [Int.bmod]
  omega
/-- A box of four cells, newer than block m. -/
structure N4 (X : World) (p m : Nat) (v0 v1 v2 v3 : Value) : Prop where
  c0 : X.cell? ⟨p, 0, none⟩ = some v0
  c1 : X.cell? ⟨p, 1, none⟩ = some v1
  c2 : X.cell? ⟨p, 2, none⟩ = some v2
  c3 : X.cell? ⟨p, 3, none⟩ = some v3
  f : ∀ o, X.frozen? ⟨p, o, none⟩ = false
  l : p < X.heap.size
  m : m < p
abbrev NB (X : World) (p m : Nat) (q : Pf) : Prop := N4 X p m (.bool q.s) (.int .i64 q.H.toInt) (.int .i64 q.L.toInt) (.int .i64 q.b)
theorem N4.keep {X Y : World} {p m c : Nat} {v0 v1 v2 v3 : Value} (h : N4 X p m v0 v1 v2 v3) (k : Kp c X Y) (hc : c ≤ m) : N4 Y p m v0 v1 v2 v3 := by
  have h1 := h.m
  exact ⟨(k.cel _ 0 h.l (by omega)).trans h.c0, (k.cel _ 1 h.l (by omega)).trans h.c1, (k.cel _ 2 h.l (by omega)).trans h.c2, (k.cel _ 3 h.l (by omega)).trans h.c3, fun o => (k.frz _ o h.l (by omega)).trans (h.f o), Nat.lt_of_lt_of_le h.l k.big, h.m⟩
theorem N4.later {X Y : World} {p m : Nat} {v0 v1 v2 v3 : Value} (h : N4 X p m v0 v1 v2 v3) (k : Below X.heap.size X Y) : N4 Y p m v0 v1 v2 v3 :=
  ⟨(k.cell (p := ⟨_, 0, none⟩) h.l).trans h.c0, (k.cell (p := ⟨_, 1, none⟩) h.l).trans h.c1, (k.cell (p := ⟨_, 2, none⟩) h.l).trans h.c2, (k.cell (p := ⟨_, 3, none⟩) h.l).trans h.c3, fun o => (k.frozen (p := ⟨_, o, none⟩) h.l).trans (h.f o), Nat.lt_of_lt_of_le h.l k.size, h.m⟩
theorem N4.new (X : World) (m : Nat) (hm : m < X.heap.size) (v0 v1 v2 v3 : Value) : N4 (X.alloc (.cells #[v0, v1, v2, v3] 31)) X.heap.size m v0 v1 v2 v3 :=
  ⟨by simp [go_sem], by simp [go_sem], by simp [go_sem], by simp [go_sem], fun o => by simp [go_sem], by simp, hm⟩
abbrev put4 (X : World) (p : Nat) (q : Pf) : World := (((X.setCell ⟨p, 0, none⟩ (.bool q.s)).setCell ⟨p, 1, none⟩ (.int .i64 q.H.toInt)).setCell ⟨p, 2, none⟩ (.int .i64 q.L.toInt)).setCell ⟨p, 3, none⟩ (.int .i64 q.b)
theorem N4.set {X : World} {p m : Nat} {v0 v1 v2 v3 : Value} (h : N4 X p m v0 v1 v2 v3) (u : Pf) : NB (put4 X p u) p m u :=
  ⟨by simp [go_sem, h.c0], by simp [go_sem, h.c1], by simp [go_sem, h.c2], by simp [go_sem, h.c3], fun o => by simpa [go_sem] using h.f o, by simpa using h.l, h.m⟩
theorem N4.far {X : World} {p m x : Nat} {v0 v1 v2 v3 : Value} (h : N4 X p m v0 v1 v2 v3) (hx : x ≠ p) (u : Pf) : N4 (put4 X x u) p m v0 v1 v2 v3 := by
  have e : ∀ o, (put4 X x u).cell? ⟨p, o, none⟩ = X.cell? ⟨p, o, none⟩ := fun o =>
    (World.cell?_setCell_far _ _ _ _ (by show x ≠ p; exact hx)).trans ((World.cell?_setCell_far _ _ _ _ (by show x ≠ p; exact hx)).trans ((World.cell?_setCell_far _ _ _ _ (by show x ≠ p; exact hx)).trans (World.cell?_setCell_far _ _ _ _ (by show x ≠ p; exact hx))))
  exact ⟨(e 0).trans h.c0, (e 1).trans h.c1, (e 2).trans h.c2, (e 3).trans h.c3, fun o => by simpa [go_sem] using h.f o, by simpa using h.l, h.m⟩
theorem Kp.put4 {c : Nat} {W X : World} (h : Kp c W X) (hc : c < W.heap.size) {p : Nat} (hp : W.heap.size ≤ p) (u : Pf) : Kp c W (put4 X p u) :=
  (((h.setNew hc hp _).setNew hc hp _).setNew hc hp _).setNew hc hp _
theorem Cur.put4 {W : World} {c : Nat} {a : Option Addr} {len cap : Nat} (h : Cur W c a len cap) {p : Nat} (hp : c < p) (u : Pf) : Cur (put4 W p u) c a len cap :=
  (((h.far hp _).far hp _).far hp _).far hp _
theorem halves_any9 (q : Pf) : ∃ (A B : Pf) (ok : Bool), ∀ w : World, Calls Try.prog 79 #[.agg #[.bool q.s, .int .i64 q.H.toInt, .int .i64 q.L.toInt, .int .i64 q.b]] w fun e w' => e = .returned (.tuple #[.agg #[.bool A.s, .int .i64 A.H.toInt, .int .i64 A.L.toInt, .int .i64 A.b], .agg #[.bool B.s, .int .i64 B.H.toInt, .int .i64 B.L.toInt, .int .i64 B.b], .bool ok]) ∧ Below w.heap.size w w' := by
  obtain ⟨S, H, L, Z⟩ := q
  cases hp : pokB S H L Z
  · exact ⟨⟨false, 0, 0, 0⟩, ⟨false, 0, 0, 0⟩, false, fun w => sHalves_no S H L Z hp w⟩
  · cases he : (Z == (wd S : Int))
    · obtain ⟨h1, h2, _⟩ := pokB_parts hp
      have hne : Z ≠ (wd S : Int) := by rw [beq_eq_false_iff_ne] at he; exact he
      obtain ⟨k, hk⟩ : ∃ k : Nat, (k : Int) + 1 = (wd S : Int) - Z := ⟨((wd S : Int) - Z - 1).toNat, by omega⟩
      exact ⟨⟨S, H, L, Z + 1⟩, ⟨S, cH k (fH (k + 1) H), cL k (fL (k + 1) L), Z + 1⟩, true, fun w => sHalves_yes S H L Z k hk h1 (by omega) hp w⟩
    · exact ⟨⟨false, 0, 0, 0⟩, ⟨false, 0, 0, 0⟩, false, fun w => sHalves_one S H L Z hp he w⟩
theorem above_any9 (q : Pf) : ∃ (A : Pf) (ok : Bool), ∀ w : World, Calls Try.prog 36 #[.agg #[.bool q.s, .int .i64 q.H.toInt, .int .i64 q.L.toInt, .int .i64 q.b]] w fun e w' => e = .returned (.tuple #[.agg #[.bool A.s, .int .i64 A.H.toInt, .int .i64 A.L.toInt, .int .i64 A.b], .bool ok]) ∧ Below w.heap.size w w' := by
  obtain ⟨S, H, L, Z⟩ := q
  cases hp : pokB S H L Z
  · exact ⟨⟨false, 0, 0, 0⟩, false, fun w => sAbove_no S H L Z hp w⟩
  · obtain ⟨h1, h2, _⟩ := pokB_parts hp
    by_cases h0 : Z = 0
    · subst h0
      exact ⟨⟨false, 0, 0, 0⟩, false, fun w => sAbove_all S H L hp w⟩
    · have h8 := wd_le' S
      obtain ⟨n, hn⟩ : ∃ n : Nat, Z - 1 = (wd S : Int) - ((n + 1 : Nat) : Int) := ⟨((wd S : Int) - Z).toNat, by omega⟩
      exact ⟨⟨S, cH (n + 1) H, cL (n + 1) L, Z - 1⟩, true, fun w => sAbove_yes S H L Z n h1 (by omega) (by omega) hn hp w⟩
/-- While a prefix near another one is drawn: the argument's box, the result's, the box of what is drawn. -/
structure NI (w X : World) (c : Nat) (a : Option Addr) (len cap x5 : Nat) (q : Pf) : Prop where
  cur : Cur X c a len cap
  kp : Kp c w X
  hc : c < w.heap.size
  r : N4 X (w.heap.size + 1) w.heap.size (.bool false) (.int .i64 0) (.int .i64 0) (.int .i64 0)
  q : NB X x5 (w.heap.size + 1) q
theorem NI.keep {w X Y : World} {c : Nat} {a : Option Addr} {len cap x5 : Nat} {q : Pf} (h : NI w X c a len cap x5 q) (hC : Cur Y c a len cap) (k : Kp c X Y) : NI w Y c a len cap x5 q :=
  ⟨hC, h.kp.trans k, h.hc, h.r.keep k (Nat.le_of_lt h.hc), h.q.keep k (by have := h.hc; omega)⟩
theorem NI.below {w X Y : World} {c : Nat} {a : Option Addr} {len cap x5 : Nat} {q : Pf} (h : NI w X c a len cap x5 q) (k : Below X.heap.size X Y) : NI w Y c a len cap x5 q :=
  ⟨h.cur.grew k, h.kp.below h.hc k, h.hc, h.r.later k, h.q.later k⟩
theorem NI.set {w X : World} {c : Nat} {a : Option Addr} {len cap x5 : Nat} {q : Pf} (h : NI w X c a len cap x5 q) (u : Pf) : NI w (put4 X x5 u) c a len cap x5 u := by
  have h1 := h.q.m; have h2 := h.hc
  exact ⟨h.cur.put4 (by omega) u, h.kp.put4 h.hc (by omega) u, h.hc, h.r.far (by omega) u, h.q.set u⟩
theorem NI.fin {w X : World} {c : Nat} {a : Option Addr} {len cap x5 : Nat} {q : Pf} (h : NI w X c a len cap x5 q) (u : Pf) : Cur (put4 X (w.heap.size + 1) u) c a len cap ∧ Kp c w (put4 X (w.heap.size + 1) u) :=
  ⟨h.cur.put4 (by have := h.hc; omega) u, h.kp.put4 h.hc (by omega) u⟩

set_option maxRecDepth 10000 in
set_option maxHeartbeats 4000000 in
theorem l2Near_any (c : Nat) (a : Option Addr) (len cap : Nat) (p : Pf) (w : World) (hC : Cur w c a len cap) :
    Calls Try.prog 54 #[.pointer (some ⟨c, 0, none⟩), .agg #[.bool p.s, .int .i64 p.H.toInt, .int .i64 p.L.toInt, .int .i64 p.b]] w fun e w' => (∃ q : Pf, e = .returned (.agg #[.bool q.s, .int .i64 q.H.toInt, .int .i64 q.L.toInt, .int .i64 q.b])) ∧ Cur w' c a len cap ∧ Kp c w w' := by
  have hc := hC.lt
  have HC := hidP hC
  have HPk := hidP (fun W => sPrefixOk_any p.s p.H p.L p.b W)
  generalize pokB p.s p.H p.L p.b = ok at *
  clear hC
  go_enter Try.func54, Try.ntmps54
  go_wp2_with fail
  have k1 := alloc_bN w (.cells #[.bool p.s, .int .i64 p.H.toInt, .int .i64 p.L.toInt, .int .i64 p.b] 31)
  have s1 : (w.alloc (.cells #[.bool p.s, .int .i64 p.H.toInt, .int .i64 p.L.toInt, .int .i64 p.b] 31)).heap.size = w.heap.size + 1 := by simp
  have P1 : NB (w.alloc (.cells #[.bool p.s, .int .i64 p.H.toInt, .int .i64 p.L.toInt, .int .i64 p.b] 31)) w.heap.size c p := N4.new w c hc _ _ _ _
  have C1 := HC.out.grew k1
  have K1 := (Kp.refl c w).below hc k1
  generalize w.alloc (.cells #[.bool p.s, .int .i64 p.H.toInt, .int .i64 p.L.toInt, .int .i64 p.b] 31) = W1 at *
  have k2 := alloc_bN W1 (.cells #[.bool false, .int .i64 0, .int .i64 0, .int .i64 0] 31)
  have R2 := N4.new W1 w.heap.size (by omega) (.bool false) (.int .i64 0) (.int .i64 0) (.int .i64 0)
  rw [s1] at R2
  have P2 := P1.later k2
  have C2 := C1.grew k2
  have K2 := K1.below hc k2
  generalize W1.alloc (.cells #[.bool false, .int .i64 0, .int .i64 0, .int .i64 0] 31) = W2 at *
  have HP2 := hidP P2
  have HR2 := hidP R2
  have HK2 := hidP (And.intro C2 K2)
  clear k1 k2 s1 P1 C1 K1 R2 P2 C2 K2 HC
  obtain ⟨p0, p1, p2, p3, pf, pl, pm⟩ := HP2.out
  refine (HPk.out _).mono ?_
  rintro e w3 ⟨rfl, k3⟩
  have HP3 := hidP (HP2.out.later k3)
  have HR3 := hidP (HR2.out.later k3)
  have HK3 := hidP (And.intro (HK2.out.1.grew k3) (HK2.out.2.below hc k3))
  clear k3 p0 p1 p2 p3 pf pl pm HP2 HR2 HK2 HPk
  obtain ⟨p0, p1, p2, p3, pf, pl, pm⟩ := HP3.out
  cases ok
  · obtain ⟨r0, r1, r2, r3, rf, rl, rm⟩ := HR3.out
    go_wp2_with fail
    refine bodyPost_ret (v := .agg #[.bool p.s, .int .i64 p.H.toInt, .int .i64 p.L.toInt, .int .i64 p.b]) (by simp [results, Try.results54, go_sem, r0, r1, r2, r3]) rfl ⟨⟨p, rfl⟩, HK3.out.1.put4 (by omega) p, HK3.out.2.put4 hc (by omega) p⟩
  · go_wp2_with fail
    have HN4 := hidP (show NI w (w3.alloc (.cells #[.bool p.s, .int .i64 p.H.toInt, .int .i64 p.L.toInt, .int .i64 p.b] 31)) c a len cap w3.heap.size p from by
      have k4 := alloc_bN w3 (.cells #[.bool p.s, .int .i64 p.H.toInt, .int .i64 p.L.toInt, .int .i64 p.b] 31)
      exact ⟨HK3.out.1.grew k4, HK3.out.2.below hc k4, hc, HR3.out.later k4, N4.new w3 (w.heap.size + 1) HR3.out.l _ _ _ _⟩)
    generalize w3.alloc (.cells #[.bool p.s, .int .i64 p.H.toInt, .int .i64 p.L.toInt, .int .i64 p.b] 31) = W4 at *
    generalize w3.heap.size = x5 at *
    clear p0 p1 p2 p3 pf pl pm HP3 HR3 HK3
    refine (l1Below_any c a len cap 6 _ HN4.out.cur).mono ?_
    rintro e w5 ⟨⟨x, y0, y9, rfl⟩, hC5, hK5⟩
    have HN5 := hidP (HN4.out.keep hC5 hK5)
    have y8 := y9 (by omega)
    clear hC5 hK5 HN4 y9
    go_wp2_with fail
    go_loopw [6] (fun t6 wr => ∃ (i : Nat) (q : Pf), i < 6 ∧ t6 = .int .i64 i ∧ NI w wr c a len cap x5 q) (fun t6 _ => (intOf t6).toNat)
    case atStart => exact ⟨x.toNat, p, by omega, by rw [show ((x.toNat : Nat) : Int) = x by omega], HN5.out⟩
    case round =>
      obtain ⟨i, q, hi, rfl, hni⟩ := hrel
      obtain ⟨W6, hW6⟩ : ∃ z, z = wr := ⟨_, rfl⟩
      rw [← hW6] at hni ⊢
      clear hW6 HN5
      have HN6 := hidP hni
      clear hni
      obtain ⟨q0, q1, q2, q3, qf, ql, qm⟩ := HN6.out.q
      by_cases hi0 : 0 < i
      · obtain ⟨m, rfl⟩ : ∃ m, i = m + 1 := ⟨i - 1, by omega⟩
        have e1 : decide ((0 : Int) < (m : Int) + 1) = true := decide_eq_true (by omega)
        have e2 : IntKind.i64.wrap ((m : Int) + 1 - 1) = (m : Int) := by rw [IntKind.wrap_i64]; omega
        have e3 : IntKind.i64.wrap (m : Int) = (m : Int) := by rw [IntKind.wrap_i64]; omega
        obtain ⟨A, B, ok, hHa⟩ := halves_any9 q
        obtain ⟨U, ok2, hAb⟩ := above_any9 q
        have HHa := hidP hHa
        have HAb := hidP hAb
        clear hHa hAb hi0
        go_wp2_with fail
        refine (HHa.out _).mono ?_
        rintro e w7 ⟨rfl, k7⟩
        have HN7 := hidP (HN6.out.below k7)
        clear k7 q0 q1 q2 q3 qf ql qm HN6 HHa
        go_upto_region 8 with fail
        have hm7 : c < w7.heap.size := Nat.lt_of_lt_of_le HN7.out.hc HN7.out.kp.big
        have hA8 : NB (w7.alloc (.cells #[.bool A.s, .int .i64 A.H.toInt, .int .i64 A.L.toInt, .int .i64 A.b] 31)) w7.heap.size c A := N4.new w7 c hm7 _ _ _ _
        have k8 := alloc_bN w7 (.cells #[.bool A.s, .int .i64 A.H.toInt, .int .i64 A.L.toInt, .int .i64 A.b] 31)
        have s8 : (w7.alloc (.cells #[.bool A.s, .int .i64 A.H.toInt, .int .i64 A.L.toInt, .int .i64 A.b] 31)).heap.size = w7.heap.size + 1 := by simp
        have N8 := HN7.out.below k8
        generalize w7.alloc (.cells #[.bool A.s, .int .i64 A.H.toInt, .int .i64 A.L.toInt, .int .i64 A.b] 31) = W8 at *
        have hB9 : NB (W8.alloc (.cells #[.bool B.s, .int .i64 B.H.toInt, .int .i64 B.L.toInt, .int .i64 B.b] 31)) W8.heap.size c B := N4.new W8 c (by omega) _ _ _ _
        rw [s8] at hB9
        have k9 := alloc_bN W8 (.cells #[.bool B.s, .int .i64 B.H.toInt, .int .i64 B.L.toInt, .int .i64 B.b] 31)
        have hA9 := hA8.later k9
        have N9 := N8.below k9
        generalize W8.alloc (.cells #[.bool B.s, .int .i64 B.H.toInt, .int .i64 B.L.toInt, .int .i64 B.b] 31) = W9 at *
        generalize w7.heap.size = x7 at *
        have HA9 := hidP hA9
        have HB9 := hidP hB9
        have HN9 := hidP N9
        clear hA8 k8 s8 N8 hB9 k9 hA9 N9 HN7
        go_wp2_with fail
        refine (l1Once_any c a len cap 4 _ HN9.out.cur).mono ?_
        rintro e w10 ⟨⟨b1, rfl⟩, hC10, hK10⟩
        have HN10 := hidP (HN9.out.keep hC10 hK10)
        have HA10 := hidP (HA9.out.keep hK10 (Nat.le_refl _))
        have HB10 := hidP (HB9.out.keep hK10 (Nat.le_refl _))
        clear hC10 hK10 HN9 HA9 HB9
        cases b1
        · cases ok
          · go_wp2_with fail
            go_roundw
            case rel => exact ⟨m, q, by omega, by go_num, HN10.out⟩
            case measure => simp [intOf]
          · go_wp2_with fail
            refine (l1Once_any c a len cap 2 _ HN10.out.cur).mono ?_
            rintro e w11 ⟨⟨b2, rfl⟩, hC11, hK11⟩
            have HN11 := hidP (HN10.out.keep hC11 hK11)
            have HA11 := hidP (HA10.out.keep hK11 (Nat.le_refl _))
            have HB11 := hidP (HB10.out.keep hK11 (Nat.le_refl _))
            clear hC11 hK11 HN10 HA10 HB10
            obtain ⟨q0, q1, q2, q3, qf, ql, qm⟩ := HN11.out.q
            cases b2
            · obtain ⟨a0, a1, a2, a3, af, al, am⟩ := HB11.out
              go_wp2_with fail
              have HS := hidP (HN11.out.set B)
              go_roundw
              case rel => exact ⟨m, B, by omega, by go_num, HS.out⟩
              case measure => simp [intOf]
            · obtain ⟨a0, a1, a2, a3, af, al, am⟩ := HA11.out
              go_wp2_with fail
              have HS := hidP (HN11.out.set A)
              go_roundw
              case rel => exact ⟨m, A, by omega, by go_num, HS.out⟩
              case measure => simp [intOf]
        · obtain ⟨q0, q1, q2, q3, qf, ql, qm⟩ := HN10.out.q
          go_wp2_with fail
          refine (HAb.out _).mono ?_
          rintro e w11 ⟨rfl, k11⟩
          have HN11 := hidP (HN10.out.below k11)
          clear k11 q0 q1 q2 q3 qf ql qm HN10 HA10 HB10
          obtain ⟨q0, q1, q2, q3, qf, ql, qm⟩ := HN11.out.q
          go_wp2_with fail
          have HS := hidP (HN11.out.set U)
          go_roundw
          case rel => exact ⟨m, U, by omega, by go_num, HS.out⟩
          case measure => simp [intOf]
      · have hi1 : i = 0 := by omega
        subst hi1
        obtain ⟨r0, r1, r2, r3, rf, rl, rm⟩ := HN6.out.r
        have nA : ¬ (x5 = w.heap.size + 1) := by omega
        have nB : ¬ (w.heap.size + 1 = x5) := by omega
        go_wp2_with fail
        have hF := HN6.out.fin q
        refine bodyPost_ret (v := .agg #[.bool q.s, .int .i64 q.H.toInt, .int .i64 q.L.toInt, .int .i64 q.b]) (by simp [results, Try.results54, go_sem, r0, r1, r2, r3]) rfl ⟨⟨q, rfl⟩, hF.1, hF.2⟩

end Go.Proofs.Ytgohffeneibhdaa

namespace Go.Proofs.Ytgohffeneibhdaa
open Go.RowKit

theorem OwnR.kp {t : TypeId} {c B : Nat} {X Y : World} {v : Value} {ps : List Pf} (h : OwnR t X B v ps) (k : Kp c X Y) (hB : c < B) : OwnR t Y B v ps := by
  refine ⟨h.1, ?_⟩
  rcases h.2 with h' | ⟨g, cc, cur, h1, h2, h3, h4⟩
  · exact Or.inl h'
  · refine Or.inr ⟨g, cc, cur, h1, h2, ?_, h4⟩
    have hgl : g < X.heap.size := by
      rcases Nat.lt_or_ge g X.heap.size with h' | h'
      · exact h'
      · rw [Array.getElem?_eq_none h'] at h3; cases h3
    exact (k.blk g hgl (by omega)).trans h3
theorem Kp.grownR {c : Nat} {w w1 w2 : World} {o : Option Nat} (h : Kp c w w1) (r : w1.grownBy w2 o) (hg : ∀ g, o = some g → w.heap.size ≤ g) (hc : c < w.heap.size) : Kp c w w2 := by
  have hne : ∀ b, b < w.heap.size → some b ≠ o := fun b hb e => by have := hg b e.symm; omega
  exact ⟨h.low.grown r (by have := h.big; omega) (fun k hk => by have := hg k hk; omega), Nat.le_trans h.big r.size,
    fun b q hb hq => (World.cell?_of_block (r.block b (Nat.lt_of_lt_of_le hb h.big) (hne b hb))).trans (h.cel b q hb hq),
    fun b q hb hq => (World.frozen?_of_block (r.block b (Nat.lt_of_lt_of_le hb h.big) (hne b hb))).trans (h.frz b q hb hq),
    fun b hb hq => (r.block b (Nat.lt_of_lt_of_le hb h.big) (hne b hb)).trans (h.blk b hb hq)⟩
theorem N4.grown {X Y : World} {p m : Nat} {v0 v1 v2 v3 : Value} {o : Option Nat} (h : N4 X p m v0 v1 v2 v3) (r : X.grownBy Y o) (hne : some p ≠ o) : N4 Y p m v0 v1 v2 v3 := by
  have e : ∀ i, Y.cell? ⟨p, i, none⟩ = X.cell? ⟨p, i, none⟩ := fun i => World.cell?_of_block (r.block p h.l hne)
  exact ⟨(e 0).trans h.c0, (e 1).trans h.c1, (e 2).trans h.c2, (e 3).trans h.c3, fun i => (World.frozen?_of_block (r.block p h.l hne)).trans (h.f i), Nat.lt_of_lt_of_le h.l r.size, h.m⟩
/-- While a row is drawn: the argument's box is w's first new block, the row lies behind it. -/
structure LI (w X : World) (c : Nat) (a : Option Addr) (len cap : Nat) (p : Pf) (a7 : Option Addr) (k c7 : Nat) (ps : List Pf) : Prop where
  cur : Cur X c a len cap
  kp : Kp c w X
  hc : c < w.heap.size
  pb : NB X w.heap.size c p
  own : OwnR 31 X (w.heap.size + 1) (.slice a7 k c7) ps
theorem LI.keep {w X Y : World} {c : Nat} {a : Option Addr} {len cap : Nat} {p : Pf} {a7 : Option Addr} {k c7 : Nat} {ps : List Pf} (h : LI w X c a len cap p a7 k c7 ps) (hC : Cur Y c a len cap) (kk : Kp c X Y) : LI w Y c a len cap p a7 k c7 ps :=
  ⟨hC, h.kp.trans kk, h.hc, h.pb.keep kk (Nat.le_refl _), h.own.kp kk (by have := h.hc; omega)⟩
theorem LI.below {w X Y : World} {c : Nat} {a : Option Addr} {len cap : Nat} {p : Pf} {a7 : Option Addr} {k c7 : Nat} {ps : List Pf} (h : LI w X c a len cap p a7 k c7 ps) (b : Below X.heap.size X Y) : LI w Y c a len cap p a7 k c7 ps :=
  ⟨h.cur.grew b, h.kp.below h.hc b, h.hc, h.pb.later b, h.own.later b⟩
theorem LI.app {w X Y : World} {c : Nat} {a : Option Addr} {len cap : Nat} {p : Pf} {a7 : Option Addr} {k c7 : Nat} {ps : List Pf} (h : LI w X c a len cap p a7 k c7 ps) {a9 : Option Addr} {k9 c9 : Nat} {qs : List Pf} (ho : OwnR 31 Y (w.heap.size + 1) (.slice a9 k9 c9) qs) (hg : X.grownBy Y (Value.slice a7 k c7).ownBlock) : LI w Y c a len cap p a9 k9 c9 qs := by
  have hq : ∀ g, (Value.slice a7 k c7).ownBlock = some g → w.heap.size + 1 ≤ g := fun g hg => (h.own.lt g hg).1
  have hcl := h.hc
  refine ⟨?_, h.kp.grownR hg (fun g e => by have := hq g e; omega) h.hc, h.hc, h.pb.grown hg (fun e => by have := hq _ e.symm; omega), ho⟩
  exact h.cur.keep ((Below.refl _ X).grown hg (by have := h.cur.lt; omega) (fun g e => by have := hq g e; omega))
theorem LI.set {w X : World} {c : Nat} {a : Option Addr} {len cap : Nat} {p : Pf} {a7 : Option Addr} {k c7 : Nat} {ps : List Pf} (h : LI w X c a len cap p a7 k c7 ps) {x : Nat} (hx : w.heap.size < x) (hne : ∀ g, (Value.slice a7 k c7).ownBlock = some g → g ≠ x) (u : Pf) : LI w (put4 X x u) c a len cap p a7 k c7 ps := by
  have hcl := h.hc
  exact ⟨h.cur.put4 (by omega) u, h.kp.put4 h.hc (by omega) u, h.hc, h.pb.far (by omega) u, (((h.own.setC hne _).setC hne _).setC hne _).setC hne _⟩

set_option maxRecDepth 10000 in
set_option maxHeartbeats 4000000 in
theorem l2List_any (c : Nat) (a : Option Addr) (len cap : Nat) (p : Pf) (most : Int) (hm : 0 < most) (hm9 : most ≤ 300) (w : World) (hC : Cur w c a len cap) :
    Calls Try.prog 23 #[.pointer (some ⟨c, 0, none⟩), .agg #[.bool p.s, .int .i64 p.H.toInt, .int .i64 p.L.toInt, .int .i64 p.b], .int .i64 most] w fun e w' => (∃ (a7 : Option Addr) (k c7 : Nat) (ps : List Pf), k = ps.length ∧ k ≤ 300 ∧ e = .returned (.slice a7 k c7) ∧ OwnR 31 w' w.heap.size (.slice a7 k c7) ps) ∧ Cur w' c a len cap ∧ Kp c w w' := by
  have hc := hC.lt
  have HC := hidP hC
  clear hC
  go_enter Try.func23, Try.ntmps23
  go_wp2_with fail
  have k1 := alloc_bN w (.cells #[.bool p.s, .int .i64 p.H.toInt, .int .i64 p.L.toInt, .int .i64 p.b] 31)
  have s1 : (w.alloc (.cells #[.bool p.s, .int .i64 p.H.toInt, .int .i64 p.L.toInt, .int .i64 p.b] 31)).heap.size = w.heap.size + 1 := by simp
  have P1 : NB (w.alloc (.cells #[.bool p.s, .int .i64 p.H.toInt, .int .i64 p.L.toInt, .int .i64 p.b] 31)) w.heap.size c p := N4.new w c hc _ _ _ _
  have C1 := HC.out.grew k1
  have K1 := (Kp.refl c w).below hc k1
  generalize w.alloc (.cells #[.bool p.s, .int .i64 p.H.toInt, .int .i64 p.L.toInt, .int .i64 p.b] 31) = W1 at *
  have k2 := alloc_bN W1 (.cells #[] 31)
  have O2 := own_zero W1 (w.heap.size + 1) 31 (by omega)
  rw [s1] at O2
  have HL2 := hidP (show LI w (W1.alloc (.cells #[] 31)) c a len cap p (some ⟨w.heap.size + 1, 0, none⟩) 0 0 [] from ⟨C1.grew k2, K1.below hc k2, hc, P1.later k2, O2⟩)
  generalize W1.alloc (.cells #[] 31) = W2 at *
  clear k1 k2 s1 P1 C1 K1 O2 HC
  refine (l1Below_any c a len cap most _ HL2.out.cur).mono ?_
  rintro e w3 ⟨⟨x, y0, y9, rfl⟩, hC3, hK3⟩
  have HL3 := hidP (HL2.out.keep hC3 hK3)
  have y8 := y9 hm
  clear hC3 hK3 HL2 y9
  go_wp2_with fail
  go_loopw [7, 8] (fun t7 t8 wr => ∃ (a7 : Option Addr) (k c7 i : Nat) (ps : List Pf), t7 = .slice a7 k c7 ∧ t8 = .int .i64 i ∧ k + i ≤ 300 ∧ LI w wr c a len cap p a7 k c7 ps) (fun _ t8 _ => (intOf t8).toNat)
  case atStart => exact ⟨_, 0, 0, x.toNat, [], rfl, by rw [show ((x.toNat : Nat) : Int) = x by omega], by omega, HL3.out⟩
  case round =>
    obtain ⟨a7, k, c7, i, ps, rfl, rfl, hki, hli⟩ := hrel
    obtain ⟨W4, hW4⟩ : ∃ z, z = wr := ⟨_, rfl⟩
    rw [← hW4] at hli ⊢
    clear hW4 HL3
    have HL4 := hidP hli
    have HKp := hidP (show k = ps.length from hli.own.caps.1)
    clear hli
    by_cases hi0 : 0 < i
    · obtain ⟨m, rfl⟩ : ∃ m, i = m + 1 := ⟨i - 1, by omega⟩
      have e1 : decide ((0 : Int) < (m : Int) + 1) = true := decide_eq_true (by omega)
      have e2 : IntKind.i64.wrap ((m : Int) + 1 - 1) = (m : Int) := by rw [IntKind.wrap_i64]; omega
      have e3 : IntKind.i64.wrap (m : Int) = (m : Int) := by rw [IntKind.wrap_i64]; omega
      obtain ⟨p0, p1, p2, p3, pf, pl, pm⟩ := HL4.out.pb
      clear hi0
      go_wp2_with fail
      refine (l2Near_any c a len cap p _ HL4.out.cur).mono ?_
      rintro e w5 ⟨⟨q, rfl⟩, hC5, hK5⟩
      have HL5 := hidP (HL4.out.keep hC5 hK5)
      clear hC5 hK5 p0 p1 p2 p3 pf pl pm HL4
      go_wp2_with fail
      have hwl : w.heap.size < w5.heap.size := HL5.out.pb.l
      have hQ6 : NB (w5.alloc (.cells #[.bool q.s, .int .i64 q.H.toInt, .int .i64 q.L.toInt, .int .i64 q.b] 31)) w5.heap.size w.heap.size q := N4.new w5 _ hwl _ _ _ _
      have k6 := alloc_bN w5 (.cells #[.bool q.s, .int .i64 q.H.toInt, .int .i64 q.L.toInt, .int .i64 q.b] 31)
      have HL6 := hidP (HL5.out.below k6)
      have HNe := hidP (fun g (hg : (Value.slice a7 k c7).ownBlock = some g) => Nat.ne_of_lt (HL5.out.own.lt g hg).2)
      have HQ6 := hidP hQ6
      generalize w5.alloc (.cells #[.bool q.s, .int .i64 q.H.toInt, .int .i64 q.L.toInt, .int .i64 q.b] 31) = W6 at *
      generalize w5.heap.size = x9 at *
      clear k6 hQ6 HL5 hwl
      refine (l1Once_any c a len cap 6 _ HL6.out.cur).mono ?_
      rintro e w7 ⟨⟨b1, rfl⟩, hC7, hK7⟩
      have HL7 := hidP (HL6.out.keep hC7 hK7)
      have HQ7 := hidP (HQ6.out.keep hK7 (Nat.le_of_lt hc))
      clear hC7 hK7 HL6 HQ6
      cases b1
      · obtain ⟨q0, q1, q2, q3, qf, ql, qm⟩ := HQ7.out
        go_wp2_with (at_builtin; refine stp9 ?_)
        unfold Stp9
        have hba := alloc_bN w7 (.cells #[.bool q.s, .int .i64 q.H.toInt, .int .i64 q.L.toInt, .int .i64 q.b] 31)
        have HSr := hidP (src_row (P := Try.prog) Try.fourP9 1 1 rfl (row_one w7 31 q) (fun h => by cases h))
        have HLa := hidP (HL7.out.below hba)
        refine wpList_appR Try.fourP9 _ rfl (.tmp 25) (.tmp 27) 24 rfl (w.heap.size + 1) a7 k c7 1 ps [q] (.slice (some ⟨w7.heap.size, 0, none⟩) 1 1) rfl HKp.out rfl HLa.out.own rfl HSr.out (by omega) HLa.out.pb.l ?_
        intro a9 c9 w9 ho9 hg9 ht9
        have HL10 := hidP (HLa.out.app ho9 hg9)
        clear ho9 hg9 ht9 hba HSr HLa q0 q1 q2 q3 qf ql qm
        go_wp2_with fail
        go_roundw
        case rel => exact ⟨a9, k + 1, c9, m, _, rfl, by go_num, by omega, HL10.out⟩
        case measure => simp [intOf]
      · go_wp2_with fail
        refine (l2DrawAny_any c a len cap _ HL7.out.cur).mono ?_
        rintro e w8 ⟨⟨S, X, Y, Z, hI, rfl⟩, hC8, hK8⟩
        have HL8 := hidP (HL7.out.keep hC8 hK8)
        have HQ8 := hidP (HQ7.out.keep hK8 (Nat.le_of_lt hc))
        obtain ⟨H, rfl⟩ : ∃ H : BitVec 64, X = H.toInt := ⟨BitVec.ofInt 64 X, (i64_bv hI.1).symm⟩
        obtain ⟨L, rfl⟩ : ∃ L : BitVec 64, Y = L.toInt := ⟨BitVec.ofInt 64 Y, (i64_bv hI.2.1).symm⟩
        clear hC8 hK8 HL7 HQ7 hI
        obtain ⟨q0, q1, q2, q3, qf, ql, qm⟩ := HQ8.out
        go_upto_region 8 with fail
        have HQ9 := hidP (HQ8.out.set ⟨S, H, L, Z⟩)
        have HL9 := hidP (HL8.out.set HQ8.out.m HNe.out ⟨S, H, L, Z⟩)
        change Hid (LI w ((((w8.setCell ⟨x9, 0, none⟩ (.bool S)).setCell ⟨x9, 1, none⟩ (.int .i64 H.toInt)).setCell ⟨x9, 2, none⟩ (.int .i64 L.toInt)).setCell ⟨x9, 3, none⟩ (.int .i64 Z)) c a len cap p a7 k c7 ps) at HL9
        change Hid (NB ((((w8.setCell ⟨x9, 0, none⟩ (.bool S)).setCell ⟨x9, 1, none⟩ (.int .i64 H.toInt)).setCell ⟨x9, 2, none⟩ (.int .i64 L.toInt)).setCell ⟨x9, 3, none⟩ (.int .i64 Z)) x9 w.heap.size ⟨S, H, L, Z⟩) at HQ9
        clear q0 q1 q2 q3 qf ql qm
        generalize (((w8.setCell ⟨x9, 0, none⟩ (.bool S)).setCell ⟨x9, 1, none⟩ (.int .i64 H.toInt)).setCell ⟨x9, 2, none⟩ (.int .i64 L.toInt)).setCell ⟨x9, 3, none⟩ (.int .i64 Z) = W9 at *
        obtain ⟨q0, q1, q2, q3, qf, ql, qm⟩ := HQ9.out
        change W9.cell? ⟨x9, 0, none⟩ = some (.bool S) at q0
        change W9.cell? ⟨x9, 1, none⟩ = some (.int .i64 H.toInt) at q1
        change W9.cell? ⟨x9, 2, none⟩ = some (.int .i64 L.toInt) at q2
        change W9.cell? ⟨x9, 3, none⟩ = some (.int .i64 Z) at q3
        go_wp2_with (at_builtin; refine stp9 ?_)
        unfold Stp9
        have hba := alloc_bN W9 (.cells #[.bool S, .int .i64 H.toInt, .int .i64 L.toInt, .int .i64 Z] 31)
        have HSr := hidP (src_row (P := Try.prog) Try.fourP9 1 1 rfl (row_one W9 31 ⟨S, H, L, Z⟩) (fun h => by cases h))
        have HLa := hidP (HL9.out.below hba)
        refine wpList_appR Try.fourP9 _ rfl (.tmp 25) (.tmp 27) 24 rfl (w.heap.size + 1) a7 k c7 1 ps [⟨S, H, L, Z⟩] (.slice (some ⟨W9.heap.size, 0, none⟩) 1 1) rfl HKp.out rfl HLa.out.own rfl HSr.out (by omega) HLa.out.pb.l ?_
        intro a9 c9 w9 ho9 hg9 ht9
        have HL10 := hidP (HLa.out.app ho9 hg9)
        clear ho9 hg9 ht9 hba HSr HLa q0 q1 q2 q3 qf ql qm
        go_wp2_with fail
        go_roundw
        case rel => exact ⟨a9, k + 1, c9, m, _, rfl, by go_num, by omega, HL10.out⟩
        case measure => simp [intOf]
    · have hi1 : i = 0 := by omega
      subst hi1
      go_wp2_with fail
      go_ret
      exact ⟨⟨a7, k, c7, ps, HKp.out, by omega, rfl, OwnR.mono HL4.out.own (by omega)⟩, HL4.out.cur, HL4.out.kp⟩

set_option maxHeartbeats 1000000 in
theorem l1SizeP (a : Option Addr) (len cap : Nat) (m : Int) (h3 : 3 ≤ m) (hl : len ≤ 1048576) (w : World) :
    Calls Try.prog 25 #[.slice a len cap, .int .i64 m] w fun e w' => (∃ x : Int, 0 < x ∧ x ≤ m ∧ e = .returned (.int .i64 x)) ∧ w' = w := by
  obtain ⟨z, hz⟩ : ∃ z : Int, (len : Int) / 12 = z := ⟨_, rfl⟩
  have hz0 : 0 ≤ z := by omega
  have hz9 : z ≤ 1000000 := by omega
  cases hd : decide (m < 3 + z)
  · have hd' := of_decide_eq_false hd
    go_enter Try.func25, Try.ntmps25
    go_wp2_with fail
    go_ret
    exact ⟨⟨3 + z, by omega, by omega, rfl⟩, rfl⟩
  · go_enter Try.func25, Try.ntmps25
    go_wp2_with fail
    go_ret
    exact ⟨⟨m, by omega, by omega, rfl⟩, rfl⟩

set_option maxRecDepth 10000 in
set_option maxHeartbeats 2000000 in
theorem drawCollapse_any (a : Option Addr) (len cap : Nat) (w : World) (hB : Bytes w a len) (hl : len ≤ 1048576) :
    Calls Try.prog 7 #[.slice a len cap] w fun e w' => ∃ (a7 : Option Addr) (k c7 : Nat) (ps : List Pf), k = ps.length ∧ k ≤ 301 ∧ e = .returned (.slice a7 k c7) ∧ OwnR 31 w' w.heap.size (.slice a7 k c7) ps ∧ Below w.heap.size w w' := by
  obtain ⟨i0, hi, hz0, hz1, hz2⟩ := info_parts Try.fourP9.2
  have HBy := hidP hB
  clear hB
  go_enter Try.func7, Try.ntmps7
  go_wp2_with fail
  refine (l1New_any a len cap w HBy.out hl).mono ?_
  rintro e w1 ⟨rfl, hC1, hb1, hs1⟩
  have HC1 := hidP hC1
  have HB1 := hidP hb1
  have hw1 : w.heap.size < w1.heap.size := by omega
  clear hC1 hb1 hs1 HBy
  go_wp2_with fail
  refine (l2Draw_any w.heap.size a len cap _ HC1.out).mono ?_
  rintro e w2 ⟨⟨S, X, Y, Z, hI, rfl⟩, hC2, hK2⟩
  obtain ⟨H, rfl⟩ : ∃ H : BitVec 64, X = H.toInt := ⟨BitVec.ofInt 64 X, (i64_bv hI.1).symm⟩
  obtain ⟨L, rfl⟩ : ∃ L : BitVec 64, Y = L.toInt := ⟨BitVec.ofInt 64 Y, (i64_bv hI.2.1).symm⟩
  have HC2 := hidP hC2
  have HB2 := hidP (HB1.out.trans hK2.low)
  have hw2 : w.heap.size < w2.heap.size := Nat.lt_of_lt_of_le hw1 hK2.big
  clear hC2 hK2 HC1 HB1 hI hw1
  go_wp2_with fail
  refine (l1SizeP a len cap 20 (by omega) hl _).mono ?_
  rintro e w' ⟨⟨sz, sz0, sz9, rfl⟩, hw'⟩
  rw [hw']
  clear hw' w'
  go_wp2_with fail
  refine (l2List_any w.heap.size a len cap ⟨S, H, L, Z⟩ sz sz0 (by omega) _ HC2.out).mono ?_
  rintro e w3 ⟨⟨a7, k, c7, ps, hk, hk9, rfl, ho⟩, hC3, hK3⟩
  have HC3 := hidP hC3
  have HB3 := hidP (HB2.out.trans hK3.low)
  have HO3 := hidP ho
  have HK3 := hidP hk
  have hw3 : w.heap.size < w3.heap.size := Nat.lt_of_lt_of_le hw2 hK3.big
  clear hC3 hK3 HC2 HB2 ho hk
  go_wp2_with fail
  refine (l1Once_any w.heap.size a len cap 60 _ HC3.out).mono ?_
  rintro e w4 ⟨⟨b, rfl⟩, hC4, hK4⟩
  have HC4 := hidP hC4
  have HB4 := hidP (HB3.out.trans hK4.low)
  have HO4 := hidP (HO3.out.kp hK4 hw2)
  have hw4 : w.heap.size < w4.heap.size := Nat.lt_of_lt_of_le hw3 hK4.big
  clear hC4 hK4 HC3 HB3 HO3
  cases b
  · go_wp2_with fail
    go_ret
    exact ⟨a7, k, c7, ps, HK3.out, by omega, rfl, OwnR.mono HO4.out (Nat.le_of_lt hw2), HB4.out⟩
  · go_wp2_with fail
    refine (l1Below_any w.heap.size a len cap 2 _ HC4.out).mono ?_
    rintro e w5 ⟨⟨x, y0, y9, rfl⟩, hC5, hK5⟩
    have y8 := y9 (by omega)
    obtain ⟨z, rfl⟩ := Int.eq_ofNat_of_zero_le y0
    have HB5 := hidP (HB4.out.trans hK5.low)
    have hw5 : w.heap.size < w5.heap.size := Nat.lt_of_lt_of_le hw4 hK5.big
    clear hC5 hK5 HC4 HB4 HO4 y9
    obtain ⟨nn, hnn⟩ : ∃ nn : Nat, (300 : Int) + (z : Int) = (nn : Int) := ⟨300 + z, by omega⟩
    have hn9 : nn ≤ 301 := by omega
    have ewr : IntKind.i64.wrap (nn : Int) = (nn : Int) := by rw [IntKind.wrap_i64]; omega
    go_wp2_with (refine wpList_make_full _ rfl (.tmp 17) (.tmp 17) 24 rfl w5.heap.size 31 i0 _ 4 Try.fourP9.1 hi hz0 hz1 .i64 .i64 nn nn nn rfl rfl rfl rfl (by rw [hz2]; omega) (by unfold maxLen; omega) (Nat.le_refl _) ?_; intro w6 hown hgrow)
    have HO : Hid (OwnR 31 w6 w5.heap.size (.slice (some ⟨w5.heap.size, 0, none⟩) nn nn) (List.replicate nn Pf.zero)) := by
      rw [made_four] at hown
      refine hidP ?_
      unfold OwnR
      rw [List.length_replicate]; exact hown
    have HW : Hid (Below w5.heap.size w5 w6) := (Below.refl _ w5).grown hgrow (Nat.le_refl _) (fun k hk => by cases hk)
    clear hown hgrow
    go_wp2_with fail
    go_ret
    exact ⟨_, nn, nn, List.replicate nn Pf.zero, by simp, hn9, rfl, OwnR.mono HO.out (Nat.le_of_lt hw5), HB5.out.trans (HW.out.mono (Nat.le_of_lt hw5))⟩

end Go.Proofs.Ytgohffeneibhdaa
