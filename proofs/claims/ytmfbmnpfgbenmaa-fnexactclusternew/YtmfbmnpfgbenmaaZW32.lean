/-
  Rows of the two ways of speaking of them: what the one says, the other does.
-/
import Derived.Test.YtmfbmnpfgbenmaaZW27
import Derived.Test.YtmfbmnpfgbenmaaZW29
import Derived.Test.YtmfbmnpfgbenmaaZW30
import Derived.Test.YtmfbmnpfgbenmaaZW31
namespace Go.Proofs.Ytmfbmnpfgbenmaa
open Go.ChangeShapes Go.WideShapes Go.ChangeAt Go.RowKit Go.Joins Go.Deep

/-- A row of one's own, as a box. -/
theorem own_box {α : Type} {K : Kd α} {t : TypeId} {W : World} {B : Nat} {v : Value} {ps : List α} (h : OwnG K t W B v ps) : (v = .slice none 0 0 ∧ ps = []) ∨ ∃ g c zs, v = .slice (some ⟨g, 0, none⟩) ps.length c ∧ B ≤ g ∧ g < W.heap.size ∧ Box W g (gflat K ps ++ zs) := by
  rcases h.2 with ⟨hv, hn⟩ | ⟨g, cap, cur, hv, hg, hr, h1, h2, h3, h4⟩
  · exact .inl ⟨hv, List.length_eq_zero_iff.1 hn⟩
  · refine .inr ⟨g, cap, cur.toList.drop (ps.length * K.k), hv, hg, (Array.getElem?_eq_some_iff.1 hr).1, t, ?_⟩
    rw [hr, ← h4, List.take_append_drop, Array.toArray_toList]
theorem gflat_map {α : Type} (K : Kd α) : ∀ ps : List α, gflat K ps = (ps.map K.cs).flatten
  | [] => rfl
  | p :: t => by
      show K.cs p ++ gflat K t = _
      rw [gflat_map K t]
      rfl
/-- Rows of things that lie in one cell each, or are cells alone. -/
theorem own_flat {α : Type} {K : Kd α} {T : Mw α} {t : TypeId} {W : World} {B : Nat} {v : Value} {ps : List α} (h : OwnG K t W B v ps) (hT : ∀ x ∈ ps, ∀ W F, T.own W F (K.cs x) x) (hl : ps.length ≤ 4611686018427387904) (F : Nat → Prop) (hF : ∀ q, v.ownBlock = some q → F q) : (mRow T).own W F [v] ps := by
  rcases own_box h with ⟨rfl, rfl⟩ | ⟨g, c, zs, rfl, _, _, hb⟩
  · exact .inl ⟨rfl, none, 0, rfl⟩
  · refine .inr ⟨g, 0, c, [], zs, ps.map K.cs, fun _ _ => False, rfl, hl, hF g rfl, rfl, by rw [List.length_map], ?_, ?_, fun _ _ h => h.elim, fun _ _ _ h => h.elim⟩
    · rw [← gflat_map]; exact hb
    · intro j us x h1 h2
      rw [List.getElem?_map, h2] at h1
      obtain rfl := Option.some.inj h1
      exact hT x (List.mem_of_getElem? h2) _ _
theorem own_int {t : TypeId} {W : World} {B : Nat} {v : Value} {ps : List Int} (h : OwnG KI t W B v ps) (hl : ps.length ≤ 4611686018427387904) (F : Nat → Prop) (hF : ∀ q, v.ownBlock = some q → F q) : mIntS.own W F [v] ps :=
  own_flat (T := mInt) h (fun _ _ _ _ => rfl) hl F hF
theorem own_byte {t : TypeId} {W : World} {B : Nat} {v : Value} {ps : List Int} (h : OwnG KBy t W B v ps) (ho : Oct ps) (hl : ps.length ≤ 4611686018427387904) (F : Nat → Prop) (hF : ∀ q, v.ownBlock = some q → F q) : mByteS.own W F [v] ps :=
  own_flat (T := mByte) h (fun x hx _ _ => ⟨rfl, (ho x hx).1, (ho x hx).2⟩) hl F hF
/-- Rows as they are read. -/
theorem row_int {W : World} {B : Nat} {us : List Value} {xs : List Int} (h : cIntS.rep W B us xs) : ∃ a c, us = [.slice a xs.length c] ∧ RowG KI W a xs ∧ xs.length ≤ 9223372036854775807 := by
  obtain ⟨a, c, rfl, hl, h⟩ := h
  refine ⟨a, c, rfl, fun j hj => ?_, hl⟩
  have hx : xs[j]? = some xs[j] := List.getElem?_eq_getElem hj
  obtain ⟨p, o, us, rfl, _, hp, hs, hr⟩ := h j _ hx
  have e : us = [.int .i64 xs[j]] := hr
  subst e
  exact ⟨p, o, xs[j], rfl, hp, hx, hs⟩
theorem row_byte {W : World} {B : Nat} {us : List Value} {xs : List Int} (h : cByteS.rep W B us xs) : ∃ a c, us = [.slice a xs.length c] ∧ RowG KBy W a xs ∧ Oct xs ∧ xs.length ≤ 9223372036854775807 := by
  obtain ⟨a, c, rfl, hl, h⟩ := h
  refine ⟨a, c, rfl, fun j hj => ?_, fun z hz => ?_, hl⟩
  · have hx : xs[j]? = some xs[j] := List.getElem?_eq_getElem hj
    obtain ⟨p, o, us, rfl, _, hp, hs, hr⟩ := h j _ hx
    have e : us = [.int .u8 xs[j]] := hr.1
    subst e
    exact ⟨p, o, xs[j], rfl, hp, hx, hs⟩
  · obtain ⟨j, hj⟩ := List.mem_iff_getElem?.1 hz
    obtain ⟨p, o, us, rfl, _, hp, hs, hr⟩ := h j _ hj
    exact ⟨hr.2.1, hr.2.2⟩
theorem int_row {W : World} {a : Option Addr} {n c : Nat} {xs : List Int} (h : RowG KI W a xs) (hn : n = xs.length) (hl : xs.length ≤ 9223372036854775807) (B : Nat) (hB : ∀ p o, a = some ⟨p, o, none⟩ → xs ≠ [] → B ≤ p) : cIntS.rep W B [.slice a n c] xs := by
  refine ⟨a, c, by rw [hn], hl, fun j x hx => ?_⟩
  obtain ⟨p, o, q, ha, hp, hq, hc⟩ := h j (List.getElem?_eq_some_iff.1 hx).1
  rw [hx] at hq
  obtain rfl := Option.some.inj hq
  exact ⟨p, o, [.int .i64 x], ha, hB p o ha (fun e => by subst e; simp at hx), hp, hc, rfl⟩
theorem byte_row {W : World} {a : Option Addr} {n c : Nat} {xs : List Int} (h : RowG KBy W a xs) (ho : Oct xs) (hn : n = xs.length) (hl : xs.length ≤ 9223372036854775807) (B : Nat) (hB : ∀ p o, a = some ⟨p, o, none⟩ → xs ≠ [] → B ≤ p) : cByteS.rep W B [.slice a n c] xs := by
  refine ⟨a, c, by rw [hn], hl, fun j x hx => ?_⟩
  obtain ⟨p, o, q, ha, hp, hq, hc⟩ := h j (List.getElem?_eq_some_iff.1 hx).1
  rw [hx] at hq
  obtain rfl := Option.some.inj hq
  exact ⟨p, o, [.int .u8 x], ha, hB p o ha (fun e => by subst e; simp at hx), hp, hc, rfl, (ho x (List.mem_of_getElem? hx)).1, (ho x (List.mem_of_getElem? hx)).2⟩
theorem own_low {α : Type} {K : Kd α} {t : TypeId} {W : World} {B : Nat} {a : Option Addr} {n c : Nat} {ps : List α} (h : OwnG K t W B (.slice a n c) ps) : ∀ p o, a = some ⟨p, o, none⟩ → ps ≠ [] → B ≤ p := fun p o ha _ => (h.lt p (by rw [ha]; rfl)).1

abbrev EnA := ((Unit × Int) × Int) × List Int
abbrev GrA := (Unit × List Int) × List Int
abbrev KeA := ((((((Unit × Int) × Int) × Int) × Int) × GrA) × List Int) × List EnA
def enX (e : En) : EnA := ((((), e.T), e.K), e.zs)
def keX (k : Kv) (ss : List Int) : KeA := (((((((((), k.T), k.V), k.B), k.E), (((), k.ps), k.bs))), ss), k.es.map enX)
def Kv.cells (k : Kv) : List Value := [.int .i64 k.T, .int .i64 k.V, .int .i64 k.B, .int .i64 k.E, .slice k.ga k.gn k.gc, .slice k.ha k.hn k.hc, .slice k.sa k.sn k.sc, .slice k.la k.ln k.lc]
theorem ke_v (k : Kv) : vA k.cells = k.v := rfl
theorem rows_exW {α : Type} {p : Nat → α → Prop} : ∀ n : Nat, (∀ j, j < n → ∃ x, p j x) → ∃ xs : List α, xs.length = n ∧ ∀ (j : Nat) (x : α), xs[j]? = some x → p j x
  | 0, _ => ⟨[], rfl, fun j x h => by simp at h⟩
  | n + 1, h => by
    obtain ⟨xs, hl, hp⟩ := rows_exW n (fun j hj => h j (by omega))
    obtain ⟨x, hx⟩ := h n (by omega)
    refine ⟨xs ++ [x], by rw [List.length_append, hl]; rfl, fun j y hy => ?_⟩
    by_cases hj : j < n
    · rw [List.getElem?_append_left (by omega)] at hy
      exact hp j y hy
    · have h2 := (List.getElem?_eq_some_iff.1 hy).1
      rw [List.length_append, hl] at h2
      have h3 : j = n := by simp at h2; omega
      subst h3
      rw [List.getElem?_append_right (by omega), hl, Nat.sub_self] at hy
      obtain rfl := Option.some.inj hy
      exact hx
/-- A row of entries as it is read. -/
theorem row_ents {W : World} {B : Nat} {us : List Value} {xs : List EnA} (h : cEntryS.rep W B us xs) : ∃ a c es, us = [.slice a xs.length c] ∧ es.map enX = xs ∧ RowG KEn W a es ∧ (∀ e ∈ es, DatR W e) ∧ xs.length ≤ 9223372036854775807 ∧ ∀ e ∈ es, e.n ≤ 9223372036854775807 := by
  obtain ⟨a, c, rfl, hl, h⟩ := h
  have hj : ∀ j, j < xs.length → ∃ e : En, ∃ x, xs[j]? = some x ∧ enX e = x ∧ (∃ p o, a = some ⟨p, o, none⟩ ∧ p < W.heap.size ∧ Seg W p (o + j * 3) (KEn.cs e)) ∧ DatR W e ∧ e.n ≤ 9223372036854775807 := by
    intro j hj
    have hx : xs[j]? = some xs[j] := List.getElem?_eq_getElem hj
    obtain ⟨p, o, us, ha, _, hp, hs, hr⟩ := h j _ hx
    generalize xs[j] = x at *
    obtain ⟨⟨⟨⟨⟩, x0⟩, x1⟩, x2⟩ := x
    obtain ⟨_, u2, rfl, ⟨_, u1, rfl, ⟨_, u0, rfl, rfl, h0⟩, h1⟩, h2⟩ := hr
    have h0 : u0 = [.int .i64 x0] := h0
    have h1 : u1 = [.int .i64 x1] := h1
    subst h0 h1
    obtain ⟨a2, c2, rfl, hr2, ho2, hl2⟩ := row_byte h2
    exact ⟨⟨x0, x1, a2, x2.length, c2, x2⟩, _, hx, rfl, ⟨p, o, ha, hp, hs⟩, ⟨rfl, ho2, hr2⟩, hl2⟩
  obtain ⟨es, hel, hes⟩ := rows_exW xs.length hj
  refine ⟨a, c, es, rfl, ?_, fun j hj' => ?_, fun e he => ?_, hl, fun e he => ?_⟩
  · refine List.ext_getElem? fun j => ?_
    rcases Nat.lt_or_ge j xs.length with hlt | hge
    · have he : es[j]? = some es[j] := List.getElem?_eq_getElem (by omega)
      obtain ⟨x, hx, hxe, _⟩ := hes j _ he
      rw [List.getElem?_map, he, hx, ← hxe]
      rfl
    · rw [List.getElem?_eq_none (by rw [List.length_map]; omega), List.getElem?_eq_none hge]
  · have he : es[j]? = some es[j] := List.getElem?_eq_getElem hj'
    obtain ⟨x, hx, _, ⟨p, o, ha, hp, hs⟩, _⟩ := hes j _ he
    exact ⟨p, o, es[j], ha, hp, he, fun i v hv => hs i v hv⟩
  · obtain ⟨j, hj'⟩ := List.mem_iff_getElem?.1 he
    obtain ⟨x, _, _, _, hd, _⟩ := hes j _ hj'
    exact hd
  · obtain ⟨j, hj'⟩ := List.mem_iff_getElem?.1 he
    obtain ⟨x, _, _, _, _, hd⟩ := hes j _ hj'
    exact hd
/-- A Keep as it is read. -/
theorem keep_read {W : World} {B : Nat} {us : List Value} {x : KeA} (h : cKeep.rep W B us x) : ∃ k ss, us = k.cells ∧ keX k ss = x ∧ KvF W k ss ∧ k.gn ≤ 9223372036854775807 := by
  obtain ⟨⟨⟨⟨⟨⟨⟨⟨⟩, x0⟩, x1⟩, x2⟩, x3⟩, ⟨⟨⟨⟩, g0⟩, g1⟩⟩, x5⟩, x6⟩ := x
  obtain ⟨_, u6, rfl, ⟨_, u5, rfl, ⟨_, u4, rfl, ⟨_, u3, rfl, ⟨_, u2, rfl, ⟨_, u1, rfl, ⟨_, u0, rfl, rfl, h0⟩, h1⟩, h2⟩, h3⟩, ⟨_, v1, rfl, ⟨_, v0, rfl, rfl, k0⟩, k1⟩⟩, h5⟩, h6⟩ := h
  have h0 : u0 = [.int .i64 x0] := h0
  have h1 : u1 = [.int .i64 x1] := h1
  have h2 : u2 = [.int .i64 x2] := h2
  have h3 : u3 = [.int .i64 x3] := h3
  subst h0 h1 h2 h3
  obtain ⟨ga, gc, rfl, gr, gl⟩ := row_int k0
  obtain ⟨ha, hc, rfl, hr, hl⟩ := row_int k1
  obtain ⟨sa, sc, rfl, sr, so, sl⟩ := row_byte h5
  obtain ⟨la, lc, es, rfl, he, lr, ld, ll, lz⟩ := row_ents h6
  have he : es.map enX = x6 := he
  have hel : es.length = x6.length := by rw [← he, List.length_map]
  refine ⟨⟨x0, x1, x2, x3, ga, g0.length, gc, ha, g1.length, hc, sa, x5.length, sc, la, x6.length, lc, g0, g1, es⟩, x5, rfl, ?_, ⟨⟨rfl, rfl, hel.symm, gr, hr, lr, ld⟩, rfl, so, sr⟩, gl⟩
  show (((((((((), x0), x1), x2), x3), (((), g0), g1))), x5), es.map enX) = _
  rw [he]
/-- A Keep in rows of its own is there. -/
theorem keep_rep {W : World} {D : Nat} {k : Kv} {ss : List Int} (h : KvO W D k ss) (hs : KvS k) : cKeep.rep W D k.cells (keX k ss) := by
  obtain ⟨T, V, B, E, ga, gn, gc, ha, hn, hc, sa, sn, sc, la, ln, lc, ps, bs, es⟩ := k
  obtain ⟨a1, a2, a3, a4, a5, o1, o2, o3, o4, o5⟩ := h
  obtain ⟨z1, z2, z3, z4, z5⟩ := hs
  simp only at a1 a2 a3 a4 o1 o2 o3 o4 o5 z1 z2 z3 z4 z5
  refine ⟨[.int .i64 T, .int .i64 V, .int .i64 B, .int .i64 E, .slice ga gn gc, .slice ha hn hc, .slice sa sn sc], [.slice la ln lc], rfl, ⟨[.int .i64 T, .int .i64 V, .int .i64 B, .int .i64 E, .slice ga gn gc, .slice ha hn hc], [.slice sa sn sc], rfl, ⟨[.int .i64 T, .int .i64 V, .int .i64 B, .int .i64 E], [.slice ga gn gc, .slice ha hn hc], rfl, ⟨[.int .i64 T, .int .i64 V, .int .i64 B], [.int .i64 E], rfl, ⟨[.int .i64 T, .int .i64 V], [.int .i64 B], rfl, ⟨[.int .i64 T], [.int .i64 V], rfl, ⟨[], [.int .i64 T], rfl, rfl, rfl⟩, rfl⟩, rfl⟩, rfl⟩, ⟨[.slice ga gn gc], [.slice ha hn hc], rfl, ⟨[], [.slice ga gn gc], rfl, rfl, int_row o1.row a1 (by show ps.length ≤ _; omega) D (own_low o1)⟩, int_row o2.row a2 (by show bs.length ≤ _; omega) D (own_low o2)⟩⟩, byte_row o3.row a5 a3 (by omega) D (own_low o3)⟩, ?_⟩
  refine ⟨la, lc, by rw [show (keX ⟨T, V, B, E, ga, gn, gc, ha, hn, hc, sa, sn, sc, la, ln, lc, ps, bs, es⟩ ss).2 = es.map enX from rfl, List.length_map, a4], by show (es.map enX).length ≤ _; rw [List.length_map]; omega, fun j x hx => ?_⟩
  have hx : (es.map enX)[j]? = some x := hx
  rw [List.getElem?_map, Option.map_eq_some_iff] at hx
  obtain ⟨e, he, rfl⟩ := hx
  obtain ⟨p, o, q, hla, hp, hq, hcl⟩ := o4.row j (List.getElem?_eq_some_iff.1 he).1
  rw [he] at hq
  obtain rfl := Option.some.inj hq
  obtain ⟨⟨e1, e2, e3⟩, _⟩ := o5 e (List.mem_of_getElem? he)
  have e9 := z5 e (List.mem_of_getElem? he)
  exact ⟨p, o, KEn.cs e, hla, own_low o4 p o hla (fun h => by subst h; simp at he), hp, fun i v hv => hcl i v hv, [.int .i64 e.T, .int .i64 e.K], [.slice e.a e.n e.c], rfl, ⟨[.int .i64 e.T], [.int .i64 e.K], rfl, ⟨[], [.int .i64 e.T], rfl, rfl, rfl⟩, rfl⟩, byte_row e3.row e2 e1 (by omega) D (own_low e3)⟩

end Go.Proofs.Ytmfbmnpfgbenmaa

/-
  The program's copies: rows cloned, entries, a Keep.
-/
namespace Go.Proofs.Ytmfbmnpfgbenmaa
open Go.ChangeShapes Go.WideShapes Go.ChangeAt Go.RowKit Go.Joins Go.Deep

set_option maxHeartbeats 2000000 in
theorem cloneByte (a : Option Addr) (n cap : Nat) (ps : List Int) (w : World) (hn : n = ps.length) (hB : RowG KBy w a ps) (hl : n ≤ 1048576) :
    Calls Try.prog 96 #[.slice a n cap] w fun e w' => ∃ a' c', e = .returned (.slice a' n c') ∧ OwnG KBy 5 w' w.heap.size (.slice a' n c') ps ∧ Below w.heap.size w w' := by
  have hq : ∀ w, (binOp .eql 52 (.slice a n cap) (.slice none 0 0)).run Try.prog w = .ok (.bool a.isNone) w := fun w => Lib.run_eql_slice_nil w _ _ a n cap 0 0 Try.tyBy.1
  cases a with
  | none =>
    have hps : ps = [] := by
      cases ps with
      | nil => rfl
      | cons z t => obtain ⟨p, o, z', e, _⟩ := hB 0 (by simp); cases e
    subst hps
    have hn0 : n = 0 := hn
    subst hn0
    clear hB hn
    go_enter Try.func96, Try.ntmps96
    go_wp2_with fail
    go_ret
    exact ⟨none, 0, rfl, own_noneG KBy w w.heap.size 5, Below.refl _ _⟩
  | some ad =>
    have HB := hidP hB
    have HN := hidP hn
    clear hB hn
    have HZ := hidP (own_zeroG KBy w w.heap.size 5 (Nat.le_refl _))
    have HZB := hidP (alloc_below w (.cells #[] 5))
    go_enter Try.func96, Try.ntmps96
    go_wp2_with (at_builtin; refine wpList_appG Try.tyBy _ rfl (.tmp 5) (.tmp 6) 52 rfl w.heap.size (some ⟨w.heap.size, 0, none⟩) 0 0 n [] ps (.slice (some ad) n cap) rfl rfl HN.out HZ.out rfl (src_rowG Try.tyBy.1 n cap (by show 0 < 1; omega) HN.out (HB.out.later HZB.out) (fun h => by cases h)) (by omega) (by simp) ?_; intro a6 c6 w6 ho6 hg6 ht6)
    have HF := hidP (And.intro ho6 (below_appG HZB.out HZ.out (by simp) hg6))
    clear ho6 hg6 ht6
    go_wp2_with fail
    go_ret
    have h := HF.out
    rw [Nat.zero_add, List.nil_append] at h
    exact ⟨a6, c6, rfl, h.1, h.2⟩
set_option maxHeartbeats 2000000 in
theorem cloneEn (a : Option Addr) (n cap : Nat) (ps : List En) (w : World) (hn : n = ps.length) (hB : RowG KEn w a ps) (hl : n ≤ 1048576) :
    Calls Try.prog 113 #[.slice a n cap] w fun e w' => ∃ a' c', e = .returned (.slice a' n c') ∧ OwnG KEn 113 w' w.heap.size (.slice a' n c') ps ∧ Below w.heap.size w w' := by
  have hq : ∀ w, (binOp .eql 28 (.slice a n cap) (.slice none 0 0)).run Try.prog w = .ok (.bool a.isNone) w := fun w => Lib.run_eql_slice_nil w _ _ a n cap 0 0 Try.tyEn.1
  cases a with
  | none =>
    have hps : ps = [] := by
      cases ps with
      | nil => rfl
      | cons z t => obtain ⟨p, o, z', e, _⟩ := hB 0 (by simp); cases e
    subst hps
    have hn0 : n = 0 := hn
    subst hn0
    clear hB hn
    go_enter Try.func113, Try.ntmps113
    go_wp2_with fail
    go_ret
    exact ⟨none, 0, rfl, own_noneG KEn w w.heap.size 113, Below.refl _ _⟩
  | some ad =>
    have HB := hidP hB
    have HN := hidP hn
    clear hB hn
    have HZ := hidP (own_zeroG KEn w w.heap.size 113 (Nat.le_refl _))
    have HZB := hidP (alloc_below w (.cells #[] 113))
    go_enter Try.func113, Try.ntmps113
    go_wp2_with (at_builtin; refine wpList_appG Try.tyEn _ rfl (.tmp 5) (.tmp 6) 28 rfl w.heap.size (some ⟨w.heap.size, 0, none⟩) 0 0 n [] ps (.slice (some ad) n cap) rfl rfl HN.out HZ.out rfl (src_rowG Try.tyEn.1 n cap (by show 0 < 3; omega) HN.out (HB.out.later HZB.out) (fun h => by cases h)) (by omega) (by simp) ?_; intro a6 c6 w6 ho6 hg6 ht6)
    have HF := hidP (And.intro ho6 (below_appG HZB.out HZ.out (by simp) hg6))
    clear ho6 hg6 ht6
    go_wp2_with fail
    go_ret
    have h := HF.out
    rw [Nat.zero_add, List.nil_append] at h
    exact ⟨a6, c6, rfl, h.1, h.2⟩

section
variable {P : Program} {a : Act} {W : World} {Q : Exit → Act → World → Prop} {w : World} {N : Nat} {y body : Code} {t0 t1 t2 t3 t4 t5 t6 t7 t8 t9 : TypeId} {s0 s1 s2 s3 s4 s5 s6 s7 s8 s9 : String} {f0 f1 f2 f3 f4 f5 f6 f7 f8 f9 : Array Edge} {r2 r3 r4 b0 b1 : Nat}
/-- What holds at the head of a round of a range over a row. -/
structure RgI (o : Option Addr) (n c er en ei N : Nat) (X : Act → Prop) (D : Nat → World → Prop) (i j : Nat) (a : Act) (W : World) : Prop where
  hr : a.eval (.tmp er) = .slice o n c
  hn : a.eval (.tmp en) = .int .i64 n
  hi : a.eval (.tmp ei) = .int .i64 i
  df : a.defers = []
  sz : a.tmps.size = N
  x : X a
  d : D j W
theorem rng_loop {o : Option Addr} {n c rs er en ei e1 e2 : Nat} {X : Act → Prop} {D : Nat → World → Prop} {tA ti tj tk tm : TypeId} (hX : ∀ a t v, X a → en ≤ t → X (a.put (some t) v)) (hXr : ∀ a v, X a → X (a.put (some er) v)) (hd : er < en ∧ en < ei ∧ ei < e1 ∧ e1 < e2 ∧ e2 < N) (hA : (match P.underlying tA with | some (.slice _) => true | _ => false) = true)
    (hn : n < 9223372036854775807) (hs : a.eval (.tmp rs) = .slice o n c) (hdf : a.defers = []) (hsz : a.tmps.size = N) (h0 : X a) (hD : D 0 W)
    (hb : ∀ i a W, i < n → RgI o n c er en ei N X D i i a W → ∀ Q' : Exit → Act → World → Prop, (∀ a' W', RgI o n c er en ei N X D i (i + 1) a' W' → Q' .normal a' W') → body.wp P Q' a W)
    (k : ∀ a W, RgI o n c er en ei N X D n n a W → y.wp P Q a W) :
    Code.wp P (((Code.region r2 #[⟨some er, .move (.tmp rs), t0, s0, f0, none⟩, ⟨some en, .call { callee := .builtin .len, args := #[.tmp er], argTypes := #[tA] }, t1, s1, f1, none⟩, ⟨some ei, .move (.const (.int .i64 0)), t2, s2, f2, none⟩] false).seq (Code.block b0 (Code.loop
      ((Code.region r3 #[⟨some e1, .binOp .lss ti (.tmp ei) (.tmp en) tj, t3, s3, f3, none⟩] false).seq ((Code.cond (.tmp e1) Code.skip (Code.exit b0)).seq
        ((Code.block b1 body).seq (Code.region r4 #[⟨some e2, .binOp .add tk (.tmp ei) (.const (.int .i64 1)) tm, t4, s4, f4, none⟩, ⟨some ei, .move (.tmp e2), t5, s5, f5, none⟩] false))))))).seq y) Q a W := by
  obtain ⟨k0, k1, k2, k3, k4⟩ := hd
  refine wp_seq (wp_seq (wp_region_list ?_))
  refine wpl_move ?_
  rw [hs]
  refine wpl_len hA (put_eq (by omega)) ?_
  refine wpl_move (wpl_nil (wp_block ?_))
  refine wp_loop (fun a W => ∃ i, i ≤ n ∧ RgI o n c er en ei N X D i i a W) (fun a _ => n - (match a.eval (.tmp ei) with | .int _ z => z.toNat | _ => 0)) ⟨0, Nat.zero_le _, (put_ne (by omega)).trans ((put_ne (by omega)).trans (put_eq (by omega))), (put_ne (by omega)).trans (put_eq (by rw [put_sz]; omega)), put_eq (by rw [put_sz, put_sz]; omega), put_df.trans (put_df.trans (put_df.trans hdf)), put_sz.trans (put_sz.trans (put_sz.trans hsz)), hX _ _ _ (hX _ _ _ (hXr _ _ h0) (Nat.le_refl _)) (by omega), hD⟩ ?_
  rintro a W ⟨i, hin, h⟩
  have hz := h.sz
  refine wp_seq (wp_region_list ?_)
  refine wpl_bin (u := .int .i64 i) (v := .int .i64 n) h.hi h.hn (run_lss W) (wpl_nil ?_)
  have g4 : RgI o n c er en ei N X D i i (a.put (some e1) (.bool (decide ((i : Int) < (n : Int))))) W := ⟨(put_ne (by omega)).trans h.hr, (put_ne (by omega)).trans h.hn, (put_ne (by omega)).trans h.hi, put_df.trans h.df, put_sz.trans hz, hX _ _ _ h.x (by omega), h.d⟩
  by_cases hlt : i < n
  · rw [decide_eq_true (by omega : (i : Int) < (n : Int))] at g4 ⊢
    refine wp_seq (wp_cond_true (put_eq (by omega)) (wp_skip ?_))
    refine wp_seq (wp_block ?_)
    refine hb i _ W hlt g4 _ ?_
    intro a' W' g
    have mz := g.sz
    refine wp_region_list ?_
    refine wpl_bin (u := .int .i64 i) (v := .int .i64 1) g.hi rfl (run_inc W' (by omega) (by omega)) ?_
    refine wpl_move (wpl_nil ?_)
    rw [put_eq (by omega)]
    refine ⟨⟨i + 1, hlt, ⟨(put_ne (by omega)).trans ((put_ne (by omega)).trans g.hr), (put_ne (by omega)).trans ((put_ne (by omega)).trans g.hn), put_eq (by rw [put_sz]; omega), put_df.trans (put_df.trans g.df), put_sz.trans (put_sz.trans mz), hX _ _ _ (hX _ _ _ g.x (by omega)) (by omega), g.d⟩⟩, ?_⟩
    have e1' : ((a'.put (some e2) (.int .i64 ((i : Int) + 1))).put (some ei) (.int .i64 ((i : Int) + 1))).eval (.tmp ei) = .int .i64 ((i : Int) + 1) := put_eq (by rw [put_sz]; omega)
    have e2' := h.hi
    simp only [e1', e2']
    show n - ((i : Int) + 1).toNat < n - (i : Int).toNat
    omega
  · have he : i = n := by omega
    subst he
    rw [decide_eq_false (by omega : ¬ (i : Int) < (i : Int))] at g4 ⊢
    refine wp_seq (wp_cond_false (put_eq (by omega)) (wp_exit ?_))
    simp only [Exit.then, Exit.inBlock, if_true]
    exact k _ W g4
end

end Go.Proofs.Ytmfbmnpfgbenmaa
