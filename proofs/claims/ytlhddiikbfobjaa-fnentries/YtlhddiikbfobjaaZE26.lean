/-
  The specification's l13Snap at an index that stands in the Keep.
-/
import Derived.Test.YtlhddiikbfobjaaZE23
import Derived.Test.YtlhddiikbfobjaaZE25
namespace Go.Proofs.Ytlhddiikbfobjaa
open Go.ChangeShapes Go.WideShapes Go.ChangeAt Go.RowKit Go.Joins Go.Deep

/-- A group and bytes that can be copied. -/
structure SnG (w : World) (a1 : Option Addr) (n1 c1 : Nat) (a2 : Option Addr) (n2 c2 : Nat) (qs rs : List Int) (a3 : Option Addr) (n3 c3 : Nat) (zs : List Int) : Prop where
  e1 : n1 = qs.length
  e2 : n2 = rs.length
  l1 : n1 ≤ 100
  l2 : n2 ≤ 100
  r1 : RowG KI w a1 qs
  r2 : RowG KI w a2 rs
  z1 : a1 = none → c1 = 0
  z2 : a2 = none → c2 = 0
  e3 : n3 = zs.length
  o3 : Oct zs
  l3 : n3 ≤ 400
  r3 : RowG KBy w a3 zs
  z3 : a3 = none → c3 = 0
/-- How a Keep comes out of a snapshot. -/
def SnP (w w' : World) (e : Ending) (k : Kv) (x t : Int) (n1 n2 n3 : Nat) (zs : List Int) : Prop := ∃ k' : Kv, e = .returned k'.v ∧ k'.T = k.T ∧ k'.V = k.V ∧ k'.B = x ∧ k'.E = t ∧ k'.gn = n1 ∧ k'.hn = n2 ∧ k'.sn = n3 ∧ k'.ln ≤ k.ln ∧ (∀ e ∈ k'.es, ∃ f ∈ k.es, e.T = f.T) ∧ KW w' w.heap.size k' zs
theorem addr_add (p o k : Nat) : Addr.add ⟨p, o, none⟩ k = ⟨p, o + k, none⟩ := by unfold Addr.add; split <;> simp_all
/-- The row from entry m on. -/
def offA (la : Option Addr) (lc m : Nat) : Option Addr := if lc = m then la else la.map (·.add (m * 3))
theorem row_off {w : World} {la : Option Addr} {lc m : Nat} {es : List En} (h : RowG KEn w la es) (hc : es.length ≤ lc) : RowG KEn w (offA la lc m) (es.drop m) := fun j hj => by
  rw [List.length_drop] at hj
  obtain ⟨p, o, q, rfl, hp, hq, c⟩ := h (m + j) (by omega)
  have e : offA (some ⟨p, o, none⟩) lc m = some ⟨p, o + m * 3, none⟩ := by
    unfold offA
    rw [if_neg (by omega)]
    show some (Addr.add ⟨p, o, none⟩ (m * 3)) = _
    rw [addr_add]
  refine ⟨p, o + m * 3, q, e, hp, by rw [List.getElem?_drop]; exact hq, fun i v hv => ?_⟩
  have h9 := c i v hv
  rw [show o + m * 3 + j * KEn.k + i = o + (m + j) * KEn.k + i by show o + m * 3 + j * 3 + i = o + (m + j) * 3 + i; omega]
  exact h9

set_option maxRecDepth 10000 in
set_option maxHeartbeats 20000000 in
theorem l13Snap_any (k : Kv) (ss : List Int) (x t : Int) (a1 : Option Addr) (n1 c1 : Nat) (a2 : Option Addr) (n2 c2 : Nat) (qs rs : List Int) (a3 : Option Addr) (n3 c3 : Nat) (zs : List Int) (Bd : Nat) (w : World) (hr : KW w Bd k ss) (hs : KS k) (hl : k.ln ≤ 120) (hb0 : 0 ≤ k.B) (hb1 : k.B ≤ 10000) (hx0 : k.B ≤ x) (hx1 : x - k.B ≤ (k.ln : Int)) (ht : taT k x = t)
    (hg : SnG w a1 n1 c1 a2 n2 c2 qs rs a3 n3 c3 zs) :
    Calls Try.prog 64 #[k.v, .int .i64 x, .int .i64 t, .agg #[.slice a1 n1 c1, .slice a2 n2 c2], .slice a3 n3 c3] w fun e w' => SnP w w' e k x t n1 n2 n3 zs ∧ Below w.heap.size w w' := by
  have HCp := hidP (fun W (hb : Below w.heap.size w W) => l13Copy_any k ss W (hr.kc.later hb) hs)
  have HTm := hidP (fun W (hb : Below w.heap.size w W) => l13TermAt_ex k x W (hr.kc.later hb).rd ⟨hb0, by omega⟩ hl (by omega))
  rw [ht, taO_y hx0 hx1] at HTm
  obtain ⟨m, hm⟩ : ∃ m : Nat, x - k.B = (m : Int) := ⟨(x - k.B).toNat, by omega⟩
  have hml : m ≤ k.ln := by omega
  have hcap : k.es.length ≤ k.lc := hr.ol.caps.2.1
  have HEn := hidP (fun W (hb : Below w.heap.size w W) => l13Entries_any (offA k.la k.lc m) (k.ln - m) (k.lc - m) (k.es.drop m) W (by rw [List.length_drop, hr.hl]) (row_off ((hr.kc.later hb).rd.rl) hcap) (fun e he => (hr.kc.later hb).oe e (List.mem_of_mem_drop he)) (by omega))
  have HG := hidP (fun W (hb : Below w.heap.size w W) => l12Copy_any a1 n1 c1 a2 n2 c2 qs rs W hg.e1 hg.e2 (hg.r1.later hb) (hg.r2.later hb) hg.z1 hg.z2 (by have := hg.l1; omega) (by have := hg.l2; omega))
  have HSn := hidP hg
  have HSr := hidP (fun W (hb : Below w.heap.size w W) => src_rowG Try.tyBy.1 n3 c3 (by show 0 < 1; omega) hg.e3 (hg.r3.later hb) hg.z3)
  have HTs := hidP (fun e (he : e ∈ k.es.drop m) => List.mem_of_mem_drop he)
  have n400 : n3 ≤ 400 := hg.l3
  have hlc : k.ln ≤ k.lc := by rw [hr.hl]; exact hcap
  clear hr hs ht hg hcap hx0 hx1
  obtain ⟨T, V, B, E, ga, gn, gc, ha, hn, hc, sa, sn, sc, la, ln, lc, ps, bs, es⟩ := k
  simp only at HCp HTm HEn HTs hl hb0 hb1 hm hml hlc
  have A1 : Hid (Bx (((w.alloc (.cells #[.int .i64 T, .int .i64 V, .int .i64 B, .int .i64 E, .slice ga gn gc, .slice ha hn hc, .slice sa sn sc, .slice la ln lc] 29)).alloc (.cells #[.slice a1 n1 c1, .slice a2 n2 c2] 26)).alloc (.cells #[.int .i64 0, .int .i64 0, .int .i64 0, .int .i64 0, .slice none 0 0, .slice none 0 0, .slice none 0 0, .slice none 0 0] 29)) w.heap.size [.int .i64 T, .int .i64 V, .int .i64 B, .int .i64 E, .slice ga gn gc, .slice ha hn hc, .slice sa sn sc, .slice la ln lc] ∧ Bx (((w.alloc (.cells #[.int .i64 T, .int .i64 V, .int .i64 B, .int .i64 E, .slice ga gn gc, .slice ha hn hc, .slice sa sn sc, .slice la ln lc] 29)).alloc (.cells #[.slice a1 n1 c1, .slice a2 n2 c2] 26)).alloc (.cells #[.int .i64 0, .int .i64 0, .int .i64 0, .int .i64 0, .slice none 0 0, .slice none 0 0, .slice none 0 0, .slice none 0 0] 29)) (w.heap.size + 1) [.slice a1 n1 c1, .slice a2 n2 c2] ∧ Bx (((w.alloc (.cells #[.int .i64 T, .int .i64 V, .int .i64 B, .int .i64 E, .slice ga gn gc, .slice ha hn hc, .slice sa sn sc, .slice la ln lc] 29)).alloc (.cells #[.slice a1 n1 c1, .slice a2 n2 c2] 26)).alloc (.cells #[.int .i64 0, .int .i64 0, .int .i64 0, .int .i64 0, .slice none 0 0, .slice none 0 0, .slice none 0 0, .slice none 0 0] 29)) (w.heap.size + 2) [.int .i64 0, .int .i64 0, .int .i64 0, .int .i64 0, .slice none 0 0, .slice none 0 0, .slice none 0 0, .slice none 0 0] ∧ Below w.heap.size w (((w.alloc (.cells #[.int .i64 T, .int .i64 V, .int .i64 B, .int .i64 E, .slice ga gn gc, .slice ha hn hc, .slice sa sn sc, .slice la ln lc] 29)).alloc (.cells #[.slice a1 n1 c1, .slice a2 n2 c2] 26)).alloc (.cells #[.int .i64 0, .int .i64 0, .int .i64 0, .int .i64 0, .slice none 0 0, .slice none 0 0, .slice none 0 0, .slice none 0 0] 29)) ∧ (((w.alloc (.cells #[.int .i64 T, .int .i64 V, .int .i64 B, .int .i64 E, .slice ga gn gc, .slice ha hn hc, .slice sa sn sc, .slice la ln lc] 29)).alloc (.cells #[.slice a1 n1 c1, .slice a2 n2 c2] 26)).alloc (.cells #[.int .i64 0, .int .i64 0, .int .i64 0, .int .i64 0, .slice none 0 0, .slice none 0 0, .slice none 0 0, .slice none 0 0] 29)).heap.size = w.heap.size + 3) := by
    have u1 := alloc_below w (.cells #[.int .i64 T, .int .i64 V, .int .i64 B, .int .i64 E, .slice ga gn gc, .slice ha hn hc, .slice sa sn sc, .slice la ln lc] 29)
    have u2 := alloc_below (w.alloc (.cells #[.int .i64 T, .int .i64 V, .int .i64 B, .int .i64 E, .slice ga gn gc, .slice ha hn hc, .slice sa sn sc, .slice la ln lc] 29)) (.cells #[.slice a1 n1 c1, .slice a2 n2 c2] 26)
    have u3 := alloc_below ((w.alloc (.cells #[.int .i64 T, .int .i64 V, .int .i64 B, .int .i64 E, .slice ga gn gc, .slice ha hn hc, .slice sa sn sc, .slice la ln lc] 29)).alloc (.cells #[.slice a1 n1 c1, .slice a2 n2 c2] 26)) (.cells #[.int .i64 0, .int .i64 0, .int .i64 0, .int .i64 0, .slice none 0 0, .slice none 0 0, .slice none 0 0, .slice none 0 0] 29)
    have v1 := Bx.new w [.int .i64 T, .int .i64 V, .int .i64 B, .int .i64 E, .slice ga gn gc, .slice ha hn hc, .slice sa sn sc, .slice la ln lc] 29
    have v2 := Bx.new (w.alloc (.cells #[.int .i64 T, .int .i64 V, .int .i64 B, .int .i64 E, .slice ga gn gc, .slice ha hn hc, .slice sa sn sc, .slice la ln lc] 29)) [.slice a1 n1 c1, .slice a2 n2 c2] 26
    have v3 := Bx.new ((w.alloc (.cells #[.int .i64 T, .int .i64 V, .int .i64 B, .int .i64 E, .slice ga gn gc, .slice ha hn hc, .slice sa sn sc, .slice la ln lc] 29)).alloc (.cells #[.slice a1 n1 c1, .slice a2 n2 c2] 26)) [.int .i64 0, .int .i64 0, .int .i64 0, .int .i64 0, .slice none 0 0, .slice none 0 0, .slice none 0 0, .slice none 0 0] 29
    have s1 : (w.alloc (.cells #[.int .i64 T, .int .i64 V, .int .i64 B, .int .i64 E, .slice ga gn gc, .slice ha hn hc, .slice sa sn sc, .slice la ln lc] 29)).heap.size = w.heap.size + 1 := by simp
    have s2 : ((w.alloc (.cells #[.int .i64 T, .int .i64 V, .int .i64 B, .int .i64 E, .slice ga gn gc, .slice ha hn hc, .slice sa sn sc, .slice la ln lc] 29)).alloc (.cells #[.slice a1 n1 c1, .slice a2 n2 c2] 26)).heap.size = w.heap.size + 2 := by simp
    rw [s1] at v2
    rw [s2] at v3
    exact hidP ⟨(v1.later u2).later u3, v2.later u3, v3, u1.trans ((u2.trans (u3.mono u2.size)).mono u1.size), by simp⟩
  go_enter Try.func64, Try.ntmps64
  go_wp2_with fail
  generalize ((w.alloc (.cells #[.int .i64 T, .int .i64 V, .int .i64 B, .int .i64 E, .slice ga gn gc, .slice ha hn hc, .slice sa sn sc, .slice la ln lc] 29)).alloc (.cells #[.slice a1 n1 c1, .slice a2 n2 c2] 26)).alloc (.cells #[.int .i64 0, .int .i64 0, .int .i64 0, .int .i64 0, .slice none 0 0, .slice none 0 0, .slice none 0 0, .slice none 0 0] 29) = W1 at *
  refine (HCp.out _ A1.out.2.2.2.1).mono ?_
  rintro e w2 ⟨⟨k', rfl, hT, hV, -⟩, hb2⟩
  obtain ⟨T', V', B', E', ga', gn', gc', ha', hn', hc', sa', sn', sc', la', ln', lc', ps', bs', es'⟩ := k'
  simp only at hT hV
  subst hT hV
  have A2 := hidP (And.intro (A1.out.1.later hb2) (And.intro (A1.out.2.1.later hb2) (And.intro (A1.out.2.2.1.later hb2) (And.intro (A1.out.2.2.2.1.trans (hb2.mono A1.out.2.2.2.1.size)) (show w.heap.size + 3 ≤ w2.heap.size by have h1 := A1.out.2.2.2.2; have h2 := hb2.size; omega)))))
  clear hb2 A1 HCp
  obtain ⟨ka0, ka1, ka2, ka3, ka4, ka5, ka6, ka7⟩ := (show _ ∧ _ ∧ _ ∧ _ ∧ _ ∧ _ ∧ _ ∧ _ from ⟨(A2.out.1).cel 0 _ rfl, (A2.out.1).cel 1 _ rfl, (A2.out.1).cel 2 _ rfl, (A2.out.1).cel 3 _ rfl, (A2.out.1).cel 4 _ rfl, (A2.out.1).cel 5 _ rfl, (A2.out.1).cel 6 _ rfl, (A2.out.1).cel 7 _ rfl⟩)
  have n1w : w.heap.size < w2.heap.size := A2.out.1.lt
  go_wp2_with fail
  have v4 := Bx.new w2 [.int .i64 T', .int .i64 V', .int .i64 B', .int .i64 E', .slice ga' gn' gc', .slice ha' hn' hc', .slice sa' sn' sc', .slice la' ln' lc'] 29
  have u4 := alloc_below w2 (.cells #[.int .i64 T', .int .i64 V', .int .i64 B', .int .i64 E', .slice ga' gn' gc', .slice ha' hn' hc', .slice sa' sn' sc', .slice la' ln' lc'] 29)
  have A3 := hidP (And.intro (A2.out.1.later u4) (And.intro (A2.out.2.1.later u4) (And.intro (A2.out.2.2.1.later u4) (And.intro v4 (And.intro (A2.out.2.2.2.1.trans (u4.mono A2.out.2.2.2.1.size)) A2.out.2.2.2.2)))))
  generalize w2.alloc (.cells #[.int .i64 T', .int .i64 V', .int .i64 B', .int .i64 E', .slice ga' gn' gc', .slice ha' hn' hc', .slice sa' sn' sc', .slice la' ln' lc'] 29) = W3 at *
  generalize hqb : w2.heap.size = qb at *
  clear u4 v4 A2 ka0 ka1 ka2 ka3 ka4 ka5 ka6 ka7 n1w
  have HQB := hidP hqb
  clear hqb
  refine (HTm.out _ A3.out.2.2.2.2.1).mono ?_
  rintro e w4 ⟨rfl, hb4⟩
  have A4 := hidP (And.intro (A3.out.1.later hb4) (And.intro (A3.out.2.1.later hb4) (And.intro (A3.out.2.2.1.later hb4) (And.intro (A3.out.2.2.2.1.later hb4) (And.intro (A3.out.2.2.2.2.1.trans (hb4.mono A3.out.2.2.2.2.1.size)) A3.out.2.2.2.2.2)))))
  clear hb4 A3 HTm
  obtain ⟨ka0, ka1, ka2, ka3, ka4, ka5, ka6, ka7⟩ := (show _ ∧ _ ∧ _ ∧ _ ∧ _ ∧ _ ∧ _ ∧ _ from ⟨(A4.out.1).cel 0 _ rfl, (A4.out.1).cel 1 _ rfl, (A4.out.1).cel 2 _ rfl, (A4.out.1).cel 3 _ rfl, (A4.out.1).cel 4 _ rfl, (A4.out.1).cel 5 _ rfl, (A4.out.1).cel 6 _ rfl, (A4.out.1).cel 7 _ rfl⟩)
  have o7 := A4.out.2.2.2.1.cel 7 _ rfl
  have oF := A4.out.2.2.2.1.frz
  have n1w : w.heap.size < w4.heap.size := A4.out.1.lt
  have n2w : qb < w4.heap.size := A4.out.2.2.2.1.lt
  have n3w : ¬ (qb = w.heap.size) := by have := A4.out.2.2.2.2.2; omega
  have n4w : ¬ (w.heap.size = qb) := by have := A4.out.2.2.2.2.2; omega
  have m0 : (0 : Int) ≤ (m : Int) := by omega
  have m1 : (m : Int) ≤ (ln : Int) := by omega
  by_cases hlm : lc = m
  · have e9 : (lc = m) = True := eq_true hlm
    have hoff : offA la lc m = la := by unfold offA; rw [if_pos hlm]
    rw [hoff] at HEn
    clear hlm hoff
    go_wp2_with fail
    have hq3 := A4.out.2.2.2.2.2
    have ne1 : qb ≠ w.heap.size + 1 := by omega
    have ne2 : qb ≠ w.heap.size + 2 := by omega
    have ne0 : qb ≠ w.heap.size := by omega
    have lq : w.heap.size ≤ qb := by omega
    have ab5 := alloc_below (w4.setCell ⟨qb, 7, none⟩ (.slice (some ⟨w4.heap.size, 0, none⟩) 0 0)) (.cells #[] 65)
    have A5 := hidP (And.intro ((A4.out.2.1.far ne1 (.slice (some ⟨w4.heap.size, 0, none⟩) 0 0)).later ab5) (And.intro ((A4.out.2.2.1.far ne2 (.slice (some ⟨w4.heap.size, 0, none⟩) 0 0)).later ab5) (And.intro ((A4.out.2.2.2.1.set 7 _ (.slice (some ⟨w4.heap.size, 0, none⟩) 0 0) rfl).later ab5) ((A4.out.2.2.2.2.1.setCell (p := ⟨qb, 7, none⟩) lq (.slice (some ⟨w4.heap.size, 0, none⟩) 0 0)).trans (ab5.mono (A4.out.2.2.2.2.1.setCell (p := ⟨qb, 7, none⟩) lq (.slice (some ⟨w4.heap.size, 0, none⟩) 0 0)).size)))))
    generalize (w4.setCell ⟨qb, 7, none⟩ (.slice (some ⟨w4.heap.size, 0, none⟩) 0 0)).alloc (.cells #[] 65) = W5 at *
    clear ab5 A4 ka0 ka1 ka2 ka3 ka4 ka5 ka6 ka7 o7 oF n1w n2w n3w n4w e9 m0 m1 hm
    refine (HEn.out _ A5.out.2.2.2).mono ?_
    rintro e w6 ⟨ya, yc, fs, rfl, hfl, hfk, ol, oe, hb6⟩
    have lq5 : qb + 1 ≤ W5.heap.size := A5.out.2.2.1.lt
    have A6 := hidP (And.intro (A5.out.1.later hb6) (And.intro (A5.out.2.1.later hb6) (And.intro (A5.out.2.2.1.later hb6) (A5.out.2.2.2.trans (hb6.mono A5.out.2.2.2.size)))))
    have O6 : Hid (OwnG KEn 65 w6 (qb + 1) (.slice ya (ln - m) yc) fs ∧ ∀ e ∈ fs, EnW w6 (qb + 1) e) := hidP ⟨ol.mono lq5, fun e he => ⟨(oe e he).hn, (oe e he).ho, (oe e he).n4, (oe e he).own.mono lq5⟩⟩
    have HF := hidP (And.intro hfl hfk)
    clear ol oe hb6 hfl hfk A5 HEn lq5
    have gb0 := A6.out.1.cel 0 _ rfl
    have gb1 := A6.out.1.cel 1 _ rfl
    have o7 := A6.out.2.2.1.cel 7 _ rfl
    have o2 := A6.out.2.2.1.cel 2 _ rfl
    have o3 := A6.out.2.2.1.cel 3 _ rfl
    have oF := A6.out.2.2.1.frz
    have n1w : w.heap.size + 1 < w6.heap.size := A6.out.1.lt
    have n2w : qb < w6.heap.size := A6.out.2.2.1.lt
    have q1 : ¬ (qb = w.heap.size + 1) := ne1
    have q2 : ¬ (w.heap.size + 1 = qb) := fun h => ne1 h.symm
    go_wp2_with fail
    have A7 := hidP (And.intro (((A6.out.1.far (b := qb) (i := 7) ne1 (.slice ya (ln - m) yc)).far (b := qb) (i := 2) ne1 (.int .i64 x)).far (b := qb) (i := 3) ne1 (.int .i64 t)) (And.intro (((A6.out.2.1.far (b := qb) (i := 7) ne2 (.slice ya (ln - m) yc)).far (b := qb) (i := 2) ne2 (.int .i64 x)).far (b := qb) (i := 3) ne2 (.int .i64 t)) (And.intro (((A6.out.2.2.1.set 7 _ (.slice ya (ln - m) yc) rfl).set 2 _ (.int .i64 x) rfl).set 3 _ (.int .i64 t) rfl) (((A6.out.2.2.2.setCell (p := ⟨qb, 7, none⟩) lq (.slice ya (ln - m) yc)).setCell (p := ⟨qb, 2, none⟩) lq (.int .i64 x)).setCell (p := ⟨qb, 3, none⟩) lq (.int .i64 t)))))
    have lqq := Nat.lt_succ_self qb
    have O7 := hidP (And.intro (((O6.out.1.low (b := qb) (i := 7) lqq (.slice ya (ln - m) yc)).low (b := qb) (i := 2) lqq (.int .i64 x)).low (b := qb) (i := 3) lqq (.int .i64 t)) (fun e he => (((O6.out.2 e he).low (b := qb) (i := 7) lqq (.slice ya (ln - m) yc)).low (b := qb) (i := 2) lqq (.int .i64 x)).low (b := qb) (i := 3) lqq (.int .i64 t)))
    generalize ((w6.setCell ⟨qb, 7, none⟩ (.slice ya (ln - m) yc)).setCell ⟨qb, 2, none⟩ (.int .i64 x)).setCell ⟨qb, 3, none⟩ (.int .i64 t) = W7 at *
    clear A6 O6 gb0 gb1 o7 o2 o3 oF n1w n2w q1 q2
    refine (HG.out _ A7.out.2.2.2).mono ?_
    rintro e w8 ⟨ja, jd, ka, kd, rfl, og, oh, -, hb8⟩
    have lq7 : qb + 1 ≤ W7.heap.size := A7.out.2.2.1.lt
    have A8 := hidP (And.intro (A7.out.2.1.later hb8) (And.intro (A7.out.2.2.1.later hb8) (A7.out.2.2.2.trans (hb8.mono A7.out.2.2.2.size))))
    have O8 : Hid (OwnG KI 3 w8 (qb + 1) (.slice ja n1 jd) qs ∧ OwnG KI 3 w8 (qb + 1) (.slice ka n2 kd) rs ∧ OwnG KEn 65 w8 (qb + 1) (.slice ya (ln - m) yc) fs ∧ ∀ e ∈ fs, EnW w8 (qb + 1) e) := hidP ⟨og.mono lq7, oh.mono lq7, O7.out.1.later hb8, fun e he => (O7.out.2 e he).later hb8⟩
    have HEo : Hid (∀ e ∈ fs, ∀ q, (Value.slice e.a e.n e.c).ownBlock = some q → q < w8.heap.size) := hidP (fun e he q hq => ((O8.out.2.2.2 e he).own.lt q hq).2)
    clear og oh hb8 A7 O7 HG lq7
    have o4 := A8.out.2.1.cel 4 _ rfl
    have o5 := A8.out.2.1.cel 5 _ rfl
    have oF := A8.out.2.1.frz
    have n2w : qb < w8.heap.size := A8.out.2.1.lt
    have n3w : w.heap.size + 2 < w8.heap.size := A8.out.1.lt
    have Z3 := own_zeroG KBy ((w8.setCell ⟨qb, 4, none⟩ (.slice ja n1 jd)).setCell ⟨qb, 5, none⟩ (.slice ka n2 kd)) ((w8.setCell ⟨qb, 4, none⟩ (.slice ja n1 jd)).setCell ⟨qb, 5, none⟩ (.slice ka n2 kd)).heap.size 5 (Nat.le_refl _)
    have ab9 := alloc_below ((w8.setCell ⟨qb, 4, none⟩ (.slice ja n1 jd)).setCell ⟨qb, 5, none⟩ (.slice ka n2 kd)) (.cells #[] 5)
    have sz9 : ((w8.setCell ⟨qb, 4, none⟩ (.slice ja n1 jd)).setCell ⟨qb, 5, none⟩ (.slice ka n2 kd)).heap.size = w8.heap.size := by simp
    have bw9 : Below w.heap.size w ((w8.setCell ⟨qb, 4, none⟩ (.slice ja n1 jd)).setCell ⟨qb, 5, none⟩ (.slice ka n2 kd)) := (A8.out.2.2.setCell (p := ⟨qb, 4, none⟩) lq _).setCell (p := ⟨qb, 5, none⟩) lq _
    have A9 := hidP (And.intro (((A8.out.1.far (b := qb) (i := 4) ne2 (.slice ja n1 jd)).far (b := qb) (i := 5) ne2 (.slice ka n2 kd)).later ab9) (And.intro (((A8.out.2.1.set 4 _ (.slice ja n1 jd) rfl).set 5 _ (.slice ka n2 kd) rfl).later ab9) (bw9.trans (ab9.mono bw9.size))))
    have O9 := hidP (And.intro ((((O8.out.1).low (b := qb) (i := 4) lqq (.slice ja n1 jd)).low (b := qb) (i := 5) lqq (.slice ka n2 kd)).later ab9) (And.intro ((((O8.out.2.1).low (b := qb) (i := 4) lqq (.slice ja n1 jd)).low (b := qb) (i := 5) lqq (.slice ka n2 kd)).later ab9) (And.intro ((((O8.out.2.2.1).low (b := qb) (i := 4) lqq (.slice ja n1 jd)).low (b := qb) (i := 5) lqq (.slice ka n2 kd)).later ab9) (fun e he => (((O8.out.2.2.2 e he).low (b := qb) (i := 4) lqq (.slice ja n1 jd)).low (b := qb) (i := 5) lqq (.slice ka n2 kd)).later ab9))))
    have ab9s := ab9.size
    rw [sz9] at Z3 ab9s
    clear ab9 bw9 sz9 O8
    have HZ3 := hidP (And.intro Z3 ab9s)
    have HSr9 := hidP (HSr.out _ A9.out.2.2)
    have nn : ∀ b : Nat, b < w8.heap.size → some b ≠ (Value.slice (some ⟨w8.heap.size, 0, none⟩) 0 0).ownBlock := fun b hb h => by have : b = w8.heap.size := Option.some.inj h; omega
    have HF4 : Hid (∀ Y, (((w8.setCell ⟨qb, 4, none⟩ (.slice ja n1 jd)).setCell ⟨qb, 5, none⟩ (.slice ka n2 kd)).alloc (.cells #[] 5)).grownBy Y (Value.slice (some ⟨w8.heap.size, 0, none⟩) 0 0).ownBlock → (Y.cell? ⟨qb, 0, none⟩ = some (.int .i64 T') ∧ Y.cell? ⟨qb, 1, none⟩ = some (.int .i64 V') ∧ Y.cell? ⟨qb, 2, none⟩ = some (.int .i64 x) ∧ Y.cell? ⟨qb, 3, none⟩ = some (.int .i64 t) ∧ Y.cell? ⟨qb, 4, none⟩ = some (.slice ja n1 jd) ∧ Y.cell? ⟨qb, 5, none⟩ = some (.slice ka n2 kd) ∧ Y.cell? ⟨qb, 6, none⟩ = some (.slice sa' sn' sc') ∧ Y.cell? ⟨qb, 7, none⟩ = some (.slice ya (ln - m) yc)) ∧ (Y.cell? ⟨w.heap.size + 1 + 1, 0, none⟩ = some (.int .i64 0) ∧ Y.cell? ⟨w.heap.size + 1 + 1, 1, none⟩ = some (.int .i64 0) ∧ Y.cell? ⟨w.heap.size + 1 + 1, 2, none⟩ = some (.int .i64 0) ∧ Y.cell? ⟨w.heap.size + 1 + 1, 3, none⟩ = some (.int .i64 0) ∧ Y.cell? ⟨w.heap.size + 1 + 1, 4, none⟩ = some (.slice none 0 0) ∧ Y.cell? ⟨w.heap.size + 1 + 1, 5, none⟩ = some (.slice none 0 0) ∧ Y.cell? ⟨w.heap.size + 1 + 1, 6, none⟩ = some (.slice none 0 0) ∧ Y.cell? ⟨w.heap.size + 1 + 1, 7, none⟩ = some (.slice none 0 0)) ∧ (∀ o, Y.frozen? ⟨qb, o, none⟩ = false) ∧ (∀ o, Y.frozen? ⟨w.heap.size + 1 + 1, o, none⟩ = false) ∧ qb < Y.heap.size ∧ w.heap.size + 1 + 1 < Y.heap.size) := hidP fun Y hY => by
      have u1 := A9.out.1.grown hY (nn _ n3w)
      have u2 := A9.out.2.1.grown hY (nn _ n2w)
      exact ⟨⟨u2.cel 0 _ rfl, u2.cel 1 _ rfl, u2.cel 2 _ rfl, u2.cel 3 _ rfl, u2.cel 4 _ rfl, u2.cel 5 _ rfl, u2.cel 6 _ rfl, u2.cel 7 _ rfl⟩, ⟨u1.cel 0 _ rfl, u1.cel 1 _ rfl, u1.cel 2 _ rfl, u1.cel 3 _ rfl, u1.cel 4 _ rfl, u1.cel 5 _ rfl, u1.cel 6 _ rfl, u1.cel 7 _ rfl⟩, u2.frz, u1.frz, u2.lt, u1.lt⟩
    have q1 : ¬ (qb = w.heap.size + 1 + 1) := ne2
    have q2 : ¬ (w.heap.size + 1 + 1 = qb) := fun h => ne2 h.symm
    clear Z3 ab9s
    go_wp2_with (at_builtin; refine wpList_appG Try.tyBy _ rfl (.tmp 46) (.tmp 47) 22 rfl w8.heap.size (some ⟨w8.heap.size, 0, none⟩) 0 0 n3 [] zs (.slice a3 n3 c3) rfl rfl HSn.out.e3 HZ3.out.1 rfl HSr9.out (by omega) HZ3.out.2 ?_; intro za zc w9 ho4 hg4 ht4; obtain ⟨⟨u0, u1, u2, u3, u4, u5, u6, u7⟩, ⟨v0, v1, v2, v3, v4, v5, v6, v7⟩, uF, vF, nu, nv⟩ := HF4.out w9 hg4)
    have Z3 := HZ3.out.1
    have ab9s := HZ3.out.2
    rw [Nat.zero_add, List.nil_append] at ho4
    have ne4 : (3 : TypeId) ≠ 5 := by decide
    have ne5 : (65 : TypeId) ≠ 5 := by decide
    have bb4 := (Below.refl w8.heap.size _).grown hg4 ab9s (fun q hq => by have : w8.heap.size = q := Option.some.inj hq; omega)
    have BW := hidP (A9.out.2.2.trans (bb4.mono A8.out.2.2.size))
    have O4 := hidP (And.intro (O9.out.1.grown hg4 (fun q hq e => own_sep O9.out.1 Z3 ne4 q hq e)) (And.intro (O9.out.2.1.grown hg4 (fun q hq e => own_sep O9.out.2.1 Z3 ne4 q hq e)) (And.intro (O9.out.2.2.1.grown hg4 (fun q hq e => own_sep O9.out.2.2.1 Z3 ne5 q hq e)) (And.intro (ho4.mono (show qb + 1 ≤ w8.heap.size from n2w)) (fun e (he : e ∈ fs) => (⟨(O9.out.2.2.2 e he).hn, (O9.out.2.2.2 e he).ho, (O9.out.2.2.2 e he).n4, (O9.out.2.2.2 e he).own.grown hg4 (fun q hq e9 => by have h9 := HEo.out e he q hq; have : w8.heap.size = q := Option.some.inj e9; omega)⟩ : EnW w9 (qb + 1) e))))))
    refine bodyPost_ret (v := Kv.v ⟨T', V', x, t, ja, n1, jd, ka, n2, kd, za, n3, zc, ya, ln - m, yc, qs, rs, fs⟩) (by simp [results, Try.results64, go_sem, v0, v1, v2, v3, v4, v5, v6, v7]) rfl ⟨⟨⟨T', V', x, t, ja, n1, jd, ka, n2, kd, za, n3, zc, ya, ln - m, yc, qs, rs, fs⟩, rfl, rfl, rfl, rfl, rfl, rfl, rfl, rfl, by show ln - m ≤ ln; omega, ?_, ?_⟩, ?_⟩
    · intro e he
      have h1 : e.key ∈ fs.map En.key := List.mem_map.2 ⟨e, he, rfl⟩
      rw [HF.out.2] at h1
      obtain ⟨f, hf, hk⟩ := List.mem_map.1 h1
      exact ⟨f, HTs.out f hf, (key_T hk).symm⟩
    · have l2 : w.heap.size + 2 < qb + 1 := by omega
      have fin : ∀ {α : Type} {K : Kd α} {ty : TypeId} {vv : Value} {pp : List α}, OwnG K ty w9 (qb + 1) vv pp → OwnG K ty (((((((((w9.setCell ⟨qb, 6, none⟩ (.slice za n3 zc)).setCell ⟨w.heap.size + 2, 0, none⟩ (.int .i64 T')).setCell ⟨w.heap.size + 2, 1, none⟩ (.int .i64 V')).setCell ⟨w.heap.size + 2, 2, none⟩ (.int .i64 x)).setCell ⟨w.heap.size + 2, 3, none⟩ (.int .i64 t)).setCell ⟨w.heap.size + 2, 4, none⟩ (.slice ja n1 jd)).setCell ⟨w.heap.size + 2, 5, none⟩ (.slice ka n2 kd)).setCell ⟨w.heap.size + 2, 6, none⟩ (.slice za n3 zc)).setCell ⟨w.heap.size + 2, 7, none⟩ (.slice ya (ln - m) yc)) w.heap.size vv pp := fun h => (((((((((h.low lqq _).low l2 _).low l2 _).low l2 _).low l2 _).low l2 _).low l2 _).low l2 _).low l2 _).mono (by omega)
      exact ⟨HSn.out.e1, HSn.out.e2, HSn.out.e3, HF.out.1, fin O4.out.1, fin O4.out.2.1, fin O4.out.2.2.2.1, HSn.out.o3, fin O4.out.2.2.1, fun e he => have g := O4.out.2.2.2.2 e he; ⟨g.hn, g.ho, g.n4, fin g.own⟩⟩
    · repeat (with_reducible refine Below.setCell ?_ ?_ _; rotate_left; (focus (first | omega | (simp; omega) | (simp; done))))
      exact BW.out
  · have e9 : (lc = m) = False := eq_false hlm
    have hoff : offA la lc m = Option.map (fun x => x.add (m * 3)) la := by unfold offA; rw [if_neg hlm]
    rw [hoff] at HEn
    clear hlm hoff
    go_wp2_with fail
    have hq3 := A4.out.2.2.2.2.2
    have ne1 : qb ≠ w.heap.size + 1 := by omega
    have ne2 : qb ≠ w.heap.size + 2 := by omega
    have ne0 : qb ≠ w.heap.size := by omega
    have lq : w.heap.size ≤ qb := by omega
    have ab5 := alloc_below (w4.setCell ⟨qb, 7, none⟩ (.slice (some ⟨w4.heap.size, 0, none⟩) 0 0)) (.cells #[] 65)
    have A5 := hidP (And.intro ((A4.out.2.1.far ne1 (.slice (some ⟨w4.heap.size, 0, none⟩) 0 0)).later ab5) (And.intro ((A4.out.2.2.1.far ne2 (.slice (some ⟨w4.heap.size, 0, none⟩) 0 0)).later ab5) (And.intro ((A4.out.2.2.2.1.set 7 _ (.slice (some ⟨w4.heap.size, 0, none⟩) 0 0) rfl).later ab5) ((A4.out.2.2.2.2.1.setCell (p := ⟨qb, 7, none⟩) lq (.slice (some ⟨w4.heap.size, 0, none⟩) 0 0)).trans (ab5.mono (A4.out.2.2.2.2.1.setCell (p := ⟨qb, 7, none⟩) lq (.slice (some ⟨w4.heap.size, 0, none⟩) 0 0)).size)))))
    generalize (w4.setCell ⟨qb, 7, none⟩ (.slice (some ⟨w4.heap.size, 0, none⟩) 0 0)).alloc (.cells #[] 65) = W5 at *
    clear ab5 A4 ka0 ka1 ka2 ka3 ka4 ka5 ka6 ka7 o7 oF n1w n2w n3w n4w e9 m0 m1 hm
    refine (HEn.out _ A5.out.2.2.2).mono ?_
    rintro e w6 ⟨ya, yc, fs, rfl, hfl, hfk, ol, oe, hb6⟩
    have lq5 : qb + 1 ≤ W5.heap.size := A5.out.2.2.1.lt
    have A6 := hidP (And.intro (A5.out.1.later hb6) (And.intro (A5.out.2.1.later hb6) (And.intro (A5.out.2.2.1.later hb6) (A5.out.2.2.2.trans (hb6.mono A5.out.2.2.2.size)))))
    have O6 : Hid (OwnG KEn 65 w6 (qb + 1) (.slice ya (ln - m) yc) fs ∧ ∀ e ∈ fs, EnW w6 (qb + 1) e) := hidP ⟨ol.mono lq5, fun e he => ⟨(oe e he).hn, (oe e he).ho, (oe e he).n4, (oe e he).own.mono lq5⟩⟩
    have HF := hidP (And.intro hfl hfk)
    clear ol oe hb6 hfl hfk A5 HEn lq5
    have gb0 := A6.out.1.cel 0 _ rfl
    have gb1 := A6.out.1.cel 1 _ rfl
    have o7 := A6.out.2.2.1.cel 7 _ rfl
    have o2 := A6.out.2.2.1.cel 2 _ rfl
    have o3 := A6.out.2.2.1.cel 3 _ rfl
    have oF := A6.out.2.2.1.frz
    have n1w : w.heap.size + 1 < w6.heap.size := A6.out.1.lt
    have n2w : qb < w6.heap.size := A6.out.2.2.1.lt
    have q1 : ¬ (qb = w.heap.size + 1) := ne1
    have q2 : ¬ (w.heap.size + 1 = qb) := fun h => ne1 h.symm
    go_wp2_with fail
    have A7 := hidP (And.intro (((A6.out.1.far (b := qb) (i := 7) ne1 (.slice ya (ln - m) yc)).far (b := qb) (i := 2) ne1 (.int .i64 x)).far (b := qb) (i := 3) ne1 (.int .i64 t)) (And.intro (((A6.out.2.1.far (b := qb) (i := 7) ne2 (.slice ya (ln - m) yc)).far (b := qb) (i := 2) ne2 (.int .i64 x)).far (b := qb) (i := 3) ne2 (.int .i64 t)) (And.intro (((A6.out.2.2.1.set 7 _ (.slice ya (ln - m) yc) rfl).set 2 _ (.int .i64 x) rfl).set 3 _ (.int .i64 t) rfl) (((A6.out.2.2.2.setCell (p := ⟨qb, 7, none⟩) lq (.slice ya (ln - m) yc)).setCell (p := ⟨qb, 2, none⟩) lq (.int .i64 x)).setCell (p := ⟨qb, 3, none⟩) lq (.int .i64 t)))))
    have lqq := Nat.lt_succ_self qb
    have O7 := hidP (And.intro (((O6.out.1.low (b := qb) (i := 7) lqq (.slice ya (ln - m) yc)).low (b := qb) (i := 2) lqq (.int .i64 x)).low (b := qb) (i := 3) lqq (.int .i64 t)) (fun e he => (((O6.out.2 e he).low (b := qb) (i := 7) lqq (.slice ya (ln - m) yc)).low (b := qb) (i := 2) lqq (.int .i64 x)).low (b := qb) (i := 3) lqq (.int .i64 t)))
    generalize ((w6.setCell ⟨qb, 7, none⟩ (.slice ya (ln - m) yc)).setCell ⟨qb, 2, none⟩ (.int .i64 x)).setCell ⟨qb, 3, none⟩ (.int .i64 t) = W7 at *
    clear A6 O6 gb0 gb1 o7 o2 o3 oF n1w n2w q1 q2
    refine (HG.out _ A7.out.2.2.2).mono ?_
    rintro e w8 ⟨ja, jd, ka, kd, rfl, og, oh, -, hb8⟩
    have lq7 : qb + 1 ≤ W7.heap.size := A7.out.2.2.1.lt
    have A8 := hidP (And.intro (A7.out.2.1.later hb8) (And.intro (A7.out.2.2.1.later hb8) (A7.out.2.2.2.trans (hb8.mono A7.out.2.2.2.size))))
    have O8 : Hid (OwnG KI 3 w8 (qb + 1) (.slice ja n1 jd) qs ∧ OwnG KI 3 w8 (qb + 1) (.slice ka n2 kd) rs ∧ OwnG KEn 65 w8 (qb + 1) (.slice ya (ln - m) yc) fs ∧ ∀ e ∈ fs, EnW w8 (qb + 1) e) := hidP ⟨og.mono lq7, oh.mono lq7, O7.out.1.later hb8, fun e he => (O7.out.2 e he).later hb8⟩
    have HEo : Hid (∀ e ∈ fs, ∀ q, (Value.slice e.a e.n e.c).ownBlock = some q → q < w8.heap.size) := hidP (fun e he q hq => ((O8.out.2.2.2 e he).own.lt q hq).2)
    clear og oh hb8 A7 O7 HG lq7
    have o4 := A8.out.2.1.cel 4 _ rfl
    have o5 := A8.out.2.1.cel 5 _ rfl
    have oF := A8.out.2.1.frz
    have n2w : qb < w8.heap.size := A8.out.2.1.lt
    have n3w : w.heap.size + 2 < w8.heap.size := A8.out.1.lt
    have Z3 := own_zeroG KBy ((w8.setCell ⟨qb, 4, none⟩ (.slice ja n1 jd)).setCell ⟨qb, 5, none⟩ (.slice ka n2 kd)) ((w8.setCell ⟨qb, 4, none⟩ (.slice ja n1 jd)).setCell ⟨qb, 5, none⟩ (.slice ka n2 kd)).heap.size 5 (Nat.le_refl _)
    have ab9 := alloc_below ((w8.setCell ⟨qb, 4, none⟩ (.slice ja n1 jd)).setCell ⟨qb, 5, none⟩ (.slice ka n2 kd)) (.cells #[] 5)
    have sz9 : ((w8.setCell ⟨qb, 4, none⟩ (.slice ja n1 jd)).setCell ⟨qb, 5, none⟩ (.slice ka n2 kd)).heap.size = w8.heap.size := by simp
    have bw9 : Below w.heap.size w ((w8.setCell ⟨qb, 4, none⟩ (.slice ja n1 jd)).setCell ⟨qb, 5, none⟩ (.slice ka n2 kd)) := (A8.out.2.2.setCell (p := ⟨qb, 4, none⟩) lq _).setCell (p := ⟨qb, 5, none⟩) lq _
    have A9 := hidP (And.intro (((A8.out.1.far (b := qb) (i := 4) ne2 (.slice ja n1 jd)).far (b := qb) (i := 5) ne2 (.slice ka n2 kd)).later ab9) (And.intro (((A8.out.2.1.set 4 _ (.slice ja n1 jd) rfl).set 5 _ (.slice ka n2 kd) rfl).later ab9) (bw9.trans (ab9.mono bw9.size))))
    have O9 := hidP (And.intro ((((O8.out.1).low (b := qb) (i := 4) lqq (.slice ja n1 jd)).low (b := qb) (i := 5) lqq (.slice ka n2 kd)).later ab9) (And.intro ((((O8.out.2.1).low (b := qb) (i := 4) lqq (.slice ja n1 jd)).low (b := qb) (i := 5) lqq (.slice ka n2 kd)).later ab9) (And.intro ((((O8.out.2.2.1).low (b := qb) (i := 4) lqq (.slice ja n1 jd)).low (b := qb) (i := 5) lqq (.slice ka n2 kd)).later ab9) (fun e he => (((O8.out.2.2.2 e he).low (b := qb) (i := 4) lqq (.slice ja n1 jd)).low (b := qb) (i := 5) lqq (.slice ka n2 kd)).later ab9))))
    have ab9s := ab9.size
    rw [sz9] at Z3 ab9s
    clear ab9 bw9 sz9 O8
    have HZ3 := hidP (And.intro Z3 ab9s)
    have HSr9 := hidP (HSr.out _ A9.out.2.2)
    have nn : ∀ b : Nat, b < w8.heap.size → some b ≠ (Value.slice (some ⟨w8.heap.size, 0, none⟩) 0 0).ownBlock := fun b hb h => by have : b = w8.heap.size := Option.some.inj h; omega
    have HF4 : Hid (∀ Y, (((w8.setCell ⟨qb, 4, none⟩ (.slice ja n1 jd)).setCell ⟨qb, 5, none⟩ (.slice ka n2 kd)).alloc (.cells #[] 5)).grownBy Y (Value.slice (some ⟨w8.heap.size, 0, none⟩) 0 0).ownBlock → (Y.cell? ⟨qb, 0, none⟩ = some (.int .i64 T') ∧ Y.cell? ⟨qb, 1, none⟩ = some (.int .i64 V') ∧ Y.cell? ⟨qb, 2, none⟩ = some (.int .i64 x) ∧ Y.cell? ⟨qb, 3, none⟩ = some (.int .i64 t) ∧ Y.cell? ⟨qb, 4, none⟩ = some (.slice ja n1 jd) ∧ Y.cell? ⟨qb, 5, none⟩ = some (.slice ka n2 kd) ∧ Y.cell? ⟨qb, 6, none⟩ = some (.slice sa' sn' sc') ∧ Y.cell? ⟨qb, 7, none⟩ = some (.slice ya (ln - m) yc)) ∧ (Y.cell? ⟨w.heap.size + 1 + 1, 0, none⟩ = some (.int .i64 0) ∧ Y.cell? ⟨w.heap.size + 1 + 1, 1, none⟩ = some (.int .i64 0) ∧ Y.cell? ⟨w.heap.size + 1 + 1, 2, none⟩ = some (.int .i64 0) ∧ Y.cell? ⟨w.heap.size + 1 + 1, 3, none⟩ = some (.int .i64 0) ∧ Y.cell? ⟨w.heap.size + 1 + 1, 4, none⟩ = some (.slice none 0 0) ∧ Y.cell? ⟨w.heap.size + 1 + 1, 5, none⟩ = some (.slice none 0 0) ∧ Y.cell? ⟨w.heap.size + 1 + 1, 6, none⟩ = some (.slice none 0 0) ∧ Y.cell? ⟨w.heap.size + 1 + 1, 7, none⟩ = some (.slice none 0 0)) ∧ (∀ o, Y.frozen? ⟨qb, o, none⟩ = false) ∧ (∀ o, Y.frozen? ⟨w.heap.size + 1 + 1, o, none⟩ = false) ∧ qb < Y.heap.size ∧ w.heap.size + 1 + 1 < Y.heap.size) := hidP fun Y hY => by
      have u1 := A9.out.1.grown hY (nn _ n3w)
      have u2 := A9.out.2.1.grown hY (nn _ n2w)
      exact ⟨⟨u2.cel 0 _ rfl, u2.cel 1 _ rfl, u2.cel 2 _ rfl, u2.cel 3 _ rfl, u2.cel 4 _ rfl, u2.cel 5 _ rfl, u2.cel 6 _ rfl, u2.cel 7 _ rfl⟩, ⟨u1.cel 0 _ rfl, u1.cel 1 _ rfl, u1.cel 2 _ rfl, u1.cel 3 _ rfl, u1.cel 4 _ rfl, u1.cel 5 _ rfl, u1.cel 6 _ rfl, u1.cel 7 _ rfl⟩, u2.frz, u1.frz, u2.lt, u1.lt⟩
    have q1 : ¬ (qb = w.heap.size + 1 + 1) := ne2
    have q2 : ¬ (w.heap.size + 1 + 1 = qb) := fun h => ne2 h.symm
    clear Z3 ab9s
    go_wp2_with (at_builtin; refine wpList_appG Try.tyBy _ rfl (.tmp 46) (.tmp 47) 22 rfl w8.heap.size (some ⟨w8.heap.size, 0, none⟩) 0 0 n3 [] zs (.slice a3 n3 c3) rfl rfl HSn.out.e3 HZ3.out.1 rfl HSr9.out (by omega) HZ3.out.2 ?_; intro za zc w9 ho4 hg4 ht4; obtain ⟨⟨u0, u1, u2, u3, u4, u5, u6, u7⟩, ⟨v0, v1, v2, v3, v4, v5, v6, v7⟩, uF, vF, nu, nv⟩ := HF4.out w9 hg4)
    have Z3 := HZ3.out.1
    have ab9s := HZ3.out.2
    rw [Nat.zero_add, List.nil_append] at ho4
    have ne4 : (3 : TypeId) ≠ 5 := by decide
    have ne5 : (65 : TypeId) ≠ 5 := by decide
    have bb4 := (Below.refl w8.heap.size _).grown hg4 ab9s (fun q hq => by have : w8.heap.size = q := Option.some.inj hq; omega)
    have BW := hidP (A9.out.2.2.trans (bb4.mono A8.out.2.2.size))
    have O4 := hidP (And.intro (O9.out.1.grown hg4 (fun q hq e => own_sep O9.out.1 Z3 ne4 q hq e)) (And.intro (O9.out.2.1.grown hg4 (fun q hq e => own_sep O9.out.2.1 Z3 ne4 q hq e)) (And.intro (O9.out.2.2.1.grown hg4 (fun q hq e => own_sep O9.out.2.2.1 Z3 ne5 q hq e)) (And.intro (ho4.mono (show qb + 1 ≤ w8.heap.size from n2w)) (fun e (he : e ∈ fs) => (⟨(O9.out.2.2.2 e he).hn, (O9.out.2.2.2 e he).ho, (O9.out.2.2.2 e he).n4, (O9.out.2.2.2 e he).own.grown hg4 (fun q hq e9 => by have h9 := HEo.out e he q hq; have : w8.heap.size = q := Option.some.inj e9; omega)⟩ : EnW w9 (qb + 1) e))))))
    refine bodyPost_ret (v := Kv.v ⟨T', V', x, t, ja, n1, jd, ka, n2, kd, za, n3, zc, ya, ln - m, yc, qs, rs, fs⟩) (by simp [results, Try.results64, go_sem, v0, v1, v2, v3, v4, v5, v6, v7]) rfl ⟨⟨⟨T', V', x, t, ja, n1, jd, ka, n2, kd, za, n3, zc, ya, ln - m, yc, qs, rs, fs⟩, rfl, rfl, rfl, rfl, rfl, rfl, rfl, rfl, by show ln - m ≤ ln; omega, ?_, ?_⟩, ?_⟩
    · intro e he
      have h1 : e.key ∈ fs.map En.key := List.mem_map.2 ⟨e, he, rfl⟩
      rw [HF.out.2] at h1
      obtain ⟨f, hf, hk⟩ := List.mem_map.1 h1
      exact ⟨f, HTs.out f hf, (key_T hk).symm⟩
    · have l2 : w.heap.size + 2 < qb + 1 := by omega
      have fin : ∀ {α : Type} {K : Kd α} {ty : TypeId} {vv : Value} {pp : List α}, OwnG K ty w9 (qb + 1) vv pp → OwnG K ty (((((((((w9.setCell ⟨qb, 6, none⟩ (.slice za n3 zc)).setCell ⟨w.heap.size + 2, 0, none⟩ (.int .i64 T')).setCell ⟨w.heap.size + 2, 1, none⟩ (.int .i64 V')).setCell ⟨w.heap.size + 2, 2, none⟩ (.int .i64 x)).setCell ⟨w.heap.size + 2, 3, none⟩ (.int .i64 t)).setCell ⟨w.heap.size + 2, 4, none⟩ (.slice ja n1 jd)).setCell ⟨w.heap.size + 2, 5, none⟩ (.slice ka n2 kd)).setCell ⟨w.heap.size + 2, 6, none⟩ (.slice za n3 zc)).setCell ⟨w.heap.size + 2, 7, none⟩ (.slice ya (ln - m) yc)) w.heap.size vv pp := fun h => (((((((((h.low lqq _).low l2 _).low l2 _).low l2 _).low l2 _).low l2 _).low l2 _).low l2 _).low l2 _).mono (by omega)
      exact ⟨HSn.out.e1, HSn.out.e2, HSn.out.e3, HF.out.1, fin O4.out.1, fin O4.out.2.1, fin O4.out.2.2.2.1, HSn.out.o3, fin O4.out.2.2.1, fun e he => have g := O4.out.2.2.2.2 e he; ⟨g.hn, g.ho, g.n4, fin g.own⟩⟩
    · repeat (with_reducible refine Below.setCell ?_ ?_ _; rotate_left; (focus (first | omega | (simp; omega) | (simp; done))))
      exact BW.out

end Go.Proofs.Ytlhddiikbfobjaa
