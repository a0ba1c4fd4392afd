/-
  A Keep that toKeep made owns its memory; what a right Keep's parts are at most; what l13Copy makes, as it is read.
-/
import Derived.Test.YtmfbmnpfgbenmaaZW34
import Derived.Test.YtmfbmnpfgbenmaaZW22
namespace Go.Proofs.Ytmfbmnpfgbenmaa
open Go.ChangeShapes Go.WideShapes Go.ChangeAt Go.RowKit Go.Joins Go.Deep

theorem idsB_len : ∀ (L : List Int) (l : Int), idsB l L = true → 0 ≤ l → (L.length : Int) ≤ 7 - l ∨ L = []
  | [], _, _, _ => .inr rfl
  | q :: t, l, h, h0 => by
      have h' : ((decide (l < q) && decide (q ≤ 7)) && idsB q t) = true := h
      simp only [Bool.and_eq_true, decide_eq_true_eq] at h'
      obtain ⟨⟨h1, h2⟩, h3⟩ := h'
      rcases idsB_len t q h3 (by omega) with h4 | rfl
      · left
        rw [List.length_cons]
        omega
      · left
        show ((1 : Nat) : Int) ≤ _
        omega
theorem ids_7 {L : List Int} (h : idsB 0 L = true) : L.length ≤ 7 := by
  rcases idsB_len L 0 h (Int.le_refl _) with h | rfl
  · omega
  · exact Nat.zero_le _
theorem en_400 {e : En} (h : e.ok = true) (hn : e.n = e.zs.length) : e.n ≤ 400 := by
  unfold En.ok enB at h
  rw [Bool.and_eq_true] at h
  have h2 := h.2
  simp only [Bool.or_eq_true, Bool.and_eq_true, beq_iff_eq, decide_eq_true_eq] at h2
  rcases h2 with (h2 | h2) | h2
  · omega
  · omega
  · have : e.zs.length = 2 := by
      have h3 := h2.2
      match hz : e.zs, h3 with
      | [_, _], _ => rfl
      | [], h3 => cases h3
      | [_], h3 => cases h3
      | _ :: _ :: _ :: _, h3 => cases h3
    omega
theorem ris_okE : ∀ {es : List En} {l : Int} {e : En}, risE l es = true → e ∈ es → e.ok = true
  | [], _, _, _, h => by cases h
  | x :: t, l, e, hr, h => by
      have hr' : ((x.ok && decide (l ≤ x.T)) && risE x.T t) = true := hr
      rw [Bool.and_eq_true, Bool.and_eq_true] at hr'
      rcases List.mem_cons.1 h with rfl | h
      · exact hr'.1.1
      · exact ris_okE hr'.2 h
theorem kv_small {k : Kv} (h : kvB k = true) : k.ps.length ≤ 7 ∧ k.bs.length ≤ 7 ∧ k.sn ≤ 20000 ∧ k.ln ≤ 120 ∧ ∀ e ∈ k.es, e.ok = true := by
  unfold kvB loB grB at h
  simp only [Bool.and_eq_true, decide_eq_true_eq] at h
  obtain ⟨⟨t0, t1⟩, ⟨v0, v1⟩, b, ⟨⟨g1, g2⟩, g3⟩, l, x, r, la⟩ := h
  refine ⟨ids_7 g1, ids_7 g2, ?_, by omega, fun e he => ris_okE r he⟩
  by_cases h0 : k.B = 0
  · rw [baB_0 h0, beqZ, beqZ, Bool.and_eq_true, decide_eq_true_eq, decide_eq_true_eq] at b
    omega
  · rw [baB_1 h0] at b
    simp only [Bool.and_eq_true, decide_eq_true_eq] at b
    omega
/-- Right or not, the same Keep elsewhere is so too. -/
theorem kvB_same {m k : Kv} (h : KvE m k) : kvB k = kvB m := by
  obtain ⟨h1, h2, h3, h4, h5, h6, h7, h8, h9, h10, h11⟩ := h
  unfold kvB loB baB
  rw [(ris_key k.E h11).1, (ris_key k.E h11).2, h1, h2, h3, h4, h7, h8, h9, h10]
theorem enX_key {es fs : List En} (h : es.map En.key = fs.map En.key) : es.map enX = fs.map enX := by
  have e : ∀ l : List En, l.map enX = (l.map En.key).map (fun z => ((((), z.1), z.2.1), z.2.2.2)) := fun l => by rw [List.map_map]; rfl
  rw [e, e, h]
theorem keX_same {m k : Kv} {ss : List Int} (h : KvE m k) : keX k ss = keX m ss := by
  unfold keX
  rw [h.T, h.V, h.B, h.E, h.ps, h.bs, enX_key h.es]
/-- What l13Copy makes, as it is read. -/
theorem kw_rep {W : World} {D : Nat} {k : Kv} {ss : List Int} (h : KW W D k ss) (hs : k.ps.length ≤ 1000 ∧ k.bs.length ≤ 1000 ∧ ss.length ≤ 100000 ∧ k.es.length ≤ 1000) : cKeep.rep W D k.cells (keX k ss) := by
  obtain ⟨T, V, B, E, ga, gn, gc, ha, hn, hc, sa, sn, sc, la, ln, lc, ps, bs, es⟩ := k
  obtain ⟨a1, a2, a3, a4, o1, o2, o3, a5, o4, o5⟩ := h
  obtain ⟨z1, z2, z3, z4⟩ := hs
  simp only at a1 a2 a3 a4 o1 o2 o3 o4 o5 z1 z2 z3 z4
  refine ⟨[.int .i64 T, .int .i64 V, .int .i64 B, .int .i64 E, .slice ga gn gc, .slice ha hn hc, .slice sa sn sc], [.slice la ln lc], rfl, ⟨[.int .i64 T, .int .i64 V, .int .i64 B, .int .i64 E, .slice ga gn gc, .slice ha hn hc], [.slice sa sn sc], rfl, ⟨[.int .i64 T, .int .i64 V, .int .i64 B, .int .i64 E], [.slice ga gn gc, .slice ha hn hc], rfl, ⟨[.int .i64 T, .int .i64 V, .int .i64 B], [.int .i64 E], rfl, ⟨[.int .i64 T, .int .i64 V], [.int .i64 B], rfl, ⟨[.int .i64 T], [.int .i64 V], rfl, ⟨[], [.int .i64 T], rfl, rfl, rfl⟩, rfl⟩, rfl⟩, rfl⟩, ⟨[.slice ga gn gc], [.slice ha hn hc], rfl, ⟨[], [.slice ga gn gc], rfl, rfl, int_row o1.row a1 (by show ps.length ≤ _; omega) D (own_low o1)⟩, int_row o2.row a2 (by show bs.length ≤ _; omega) D (own_low o2)⟩⟩, byte_row o3.row a5 a3 (by omega) D (own_low o3)⟩, ?_⟩
  refine ⟨la, lc, by rw [show (keX ⟨T, V, B, E, ga, gn, gc, ha, hn, hc, sa, sn, sc, la, ln, lc, ps, bs, es⟩ ss).2 = es.map enX from rfl, List.length_map, a4], by show (es.map enX).length ≤ _; rw [List.length_map]; omega, fun j x hx => ?_⟩
  have hx : (es.map enX)[j]? = some x := hx
  rw [List.getElem?_map, Option.map_eq_some_iff] at hx
  obtain ⟨e, he, rfl⟩ := hx
  obtain ⟨p, o, q, hla, hp, hq, hcl⟩ := o4.row j (List.getElem?_eq_some_iff.1 he).1
  rw [he] at hq
  obtain rfl := Option.some.inj hq
  have hw := o5 e (List.mem_of_getElem? he)
  have e1 := hw.hn
  have e9 := hw.n4
  exact ⟨p, o, KEn.cs e, hla, own_low o4 p o hla (fun h => by subst h; simp at he), hp, fun i v hv => hcl i v hv, [.int .i64 e.T, .int .i64 e.K], [.slice e.a e.n e.c], rfl, ⟨[.int .i64 e.T], [.int .i64 e.K], rfl, ⟨[], [.int .i64 e.T], rfl, rfl, rfl⟩, rfl⟩, byte_row hw.own.row hw.ho e1 (by omega) D (own_low hw.own)⟩

/-- The block of a row. -/
abbrev ob (v : Value) : Nat → Prop := fun q => v.ownBlock = some q
theorem ob_ne {α β : Type} {K : Kd α} {L : Kd β} {t u : TypeId} {X : World} {B C : Nat} {a b : Option Addr} {n c m d : Nat} {ps : List α} {qs : List β} (h : OwnG K t X B (.slice a n c) ps) (g : OwnG L u X C (.slice b m d) qs) (hn : a ≠ b) : ∀ q, ob (.slice a n c) q → ¬ ob (.slice b m d) q := by
  intro q hv hx
  rcases h.2 with ⟨h, _⟩ | ⟨g1, c1, _, h, _⟩
  · simp only [Value.slice.injEq] at h
    obtain ⟨rfl, _⟩ := h
    cases hv
  · rcases g.2 with ⟨g, _⟩ | ⟨g2, c2, _, g, _⟩
    · simp only [Value.slice.injEq] at g
      obtain ⟨rfl, _⟩ := g
      cases hx
    · simp only [Value.slice.injEq] at h g
      obtain ⟨rfl, _⟩ := h
      obtain ⟨rfl, _⟩ := g
      have h1 : g1 = q := Option.some.inj hv
      have h2 : g2 = q := Option.some.inj hx
      subst h1 h2
      exact hn rfl
set_option maxHeartbeats 2000000 in
theorem kvO_own {W : World} {D : Nat} {k : Kv} {ss : List Int} (h : KvO W D k ss) (hd : KvD k) (hs : KvS k) : mKeep.own W (fun q => D ≤ q ∧ q < W.heap.size) k.cells (keX k ss) := by
  obtain ⟨T, V, B, E, ga, gn, gc, ha, hn, hc, sa, sn, sc, la, ln, lc, ps, bs, es⟩ := k
  obtain ⟨a1, a2, a3, a4, a5, o1, o2, o3, o4, o5⟩ := h
  obtain ⟨z1, z2, z3, z4, z5⟩ := hs
  obtain ⟨d1, d2, d3⟩ := hd
  simp only at a1 a2 a3 a4 o1 o2 o3 o4 o5 z1 z2 z3 z4 z5 d1 d2 d3
  have sE : ∀ e ∈ es, ∀ q, ob (.slice e.a e.n e.c) q → ¬ ob (.slice ga gn gc) q ∧ ¬ ob (.slice ha hn hc) q ∧ ¬ ob (.slice sa sn sc) q ∧ ¬ ob (.slice la ln lc) q := fun e he q hq =>
    ⟨own_sep (o5 e he).1.2.2 o1 (by decide) q hq, own_sep (o5 e he).1.2.2 o2 (by decide) q hq, ob_ne (o5 e he).1.2.2 o3 (d2 e he) q hq, own_sep (o5 e he).1.2.2 o4 (by decide) q hq⟩
  let FL : Nat → Prop := fun q => ob (.slice la ln lc) q ∨ ∃ e ∈ es, ob (.slice e.a e.n e.c) q
  have log : mEntryS.own W FL [.slice la ln lc] (es.map enX) := by
    rcases own_box o4 with ⟨hv, rfl⟩ | ⟨g, c2, zs, hv, _, _, hb⟩
    · simp only [Value.slice.injEq] at hv
      obtain ⟨rfl, rfl, rfl⟩ := hv
      exact .inl ⟨rfl, none, 0, rfl⟩
    · simp only [Value.slice.injEq] at hv
      obtain ⟨rfl, hne, rfl⟩ := hv
      have hG : ∀ (i : Nat) (e : En), es[i]? = some e → e ∈ es := fun i e h => List.mem_of_getElem? h
      refine .inr ⟨g, 0, lc, [], zs, es.map KEn.cs, fun j q => ∃ e, es[j]? = some e ∧ ob (.slice e.a e.n e.c) q, by rw [List.length_map, a4], by rw [List.length_map]; omega, .inl rfl, rfl, by rw [List.length_map, List.length_map], by rw [← gflat_map]; exact hb, ?_, ?_, ?_⟩
      · intro j us x hju hjx
        rw [List.getElem?_map, Option.map_eq_some_iff] at hjx
        obtain ⟨e, he, rfl⟩ := hjx
        rw [List.getElem?_map, he] at hju
        obtain rfl := Option.some.inj hju
        obtain ⟨⟨e1, e2, e3⟩, _⟩ := o5 e (hG j e he)
        have e9 := z5 e (hG j e he)
        exact ⟨[.int .i64 e.T, .int .i64 e.K], [.slice e.a e.n e.c], fun _ => False, ob (.slice e.a e.n e.c), rfl, fun _ h => h.elim, fun q h => ⟨e, he, h⟩, fun _ h => h.elim, ⟨[.int .i64 e.T], [.int .i64 e.K], fun _ => False, fun _ => False, rfl, fun _ h => h, fun _ h => h, fun _ h => h.elim, ⟨[], [.int .i64 e.T], fun _ => False, fun _ => False, rfl, fun _ h => h, fun _ h => h, fun _ h => h.elim, rfl, rfl⟩, rfl⟩, own_byte e3 e2 (by omega) _ (fun _ h => h)⟩
      · rintro j q ⟨e, he, hq⟩
        refine ⟨.inr ⟨e, hG j e he, hq⟩, fun hqp => ?_⟩
        subst hqp
        exact (sE e (hG j e he) _ hq).2.2.2 rfl
      · rintro i j q ⟨e, he, hq⟩ ⟨f, hf, hq2⟩
        rcases Nat.lt_trichotomy i j with hij | hij | hij
        · exfalso
          have hil := (List.getElem?_eq_some_iff.1 he).1
          have hjl := (List.getElem?_eq_some_iff.1 hf).1
          have := List.pairwise_iff_getElem.1 d3 i j hil hjl hij
          rw [(List.getElem?_eq_some_iff.1 he).2, (List.getElem?_eq_some_iff.1 hf).2] at this
          exact ob_ne (o5 e (hG i e he)).1.2.2 (o5 f (hG j f hf)).1.2.2 this q hq hq2
        · exact hij
        · exfalso
          have hil := (List.getElem?_eq_some_iff.1 he).1
          have hjl := (List.getElem?_eq_some_iff.1 hf).1
          have := List.pairwise_iff_getElem.1 d3 j i hjl hil hij
          rw [(List.getElem?_eq_some_iff.1 he).2, (List.getElem?_eq_some_iff.1 hf).2] at this
          exact ob_ne (o5 f (hG j f hf)).1.2.2 (o5 e (hG i e he)).1.2.2 this q hq2 hq
  have hFL : ∀ q, FL q → D ≤ q ∧ q < W.heap.size := fun q h => h.elim (fun h => o4.lt q h) (fun ⟨e, he, h⟩ => (o5 e he).1.2.2.lt q h)
  let FG : Nat → Prop := fun q => ob (.slice ga gn gc) q ∨ ob (.slice ha hn hc) q
  let FS : Nat → Prop := fun q => FG q ∨ ob (.slice sa sn sc) q
  refine ⟨[.int .i64 T, .int .i64 V, .int .i64 B, .int .i64 E, .slice ga gn gc, .slice ha hn hc, .slice sa sn sc], [.slice la ln lc], FS, FL, rfl, fun q h => ?_, hFL, fun q h1 h2 => ?_, ?_, log⟩
  · rcases h with (h | h) | h
    · exact o1.lt q h
    · exact o2.lt q h
    · exact o3.lt q h
  · rcases h2 with h2 | ⟨e, he, h2⟩
    · rcases h1 with (h1 | h1) | h1
      · exact own_sep o4 o1 (by decide) q h2 h1
      · exact own_sep o4 o2 (by decide) q h2 h1
      · exact own_sep o4 o3 (by decide) q h2 h1
    · obtain ⟨n1, n2, n3, _⟩ := sE e he q h2
      rcases h1 with (h1 | h1) | h1
      · exact n1 h1
      · exact n2 h1
      · exact n3 h1
  refine ⟨[.int .i64 T, .int .i64 V, .int .i64 B, .int .i64 E, .slice ga gn gc, .slice ha hn hc], [.slice sa sn sc], FG, ob (.slice sa sn sc), rfl, fun q h => .inl h, fun q h => .inr h, fun q h1 h2 => ?_, ?_, own_byte o3 a5 (by omega) _ (fun _ h => h)⟩
  · rcases h1 with h1 | h1
    · exact own_sep o3 o1 (by decide) q h2 h1
    · exact own_sep o3 o2 (by decide) q h2 h1
  refine ⟨[.int .i64 T, .int .i64 V, .int .i64 B, .int .i64 E], [.slice ga gn gc, .slice ha hn hc], fun _ => False, FG, rfl, fun _ h => h.elim, fun _ h => h, fun _ h => h.elim, ?_, ?_⟩
  · exact ⟨[.int .i64 T, .int .i64 V, .int .i64 B], [.int .i64 E], fun _ => False, fun _ => False, rfl, fun _ h => h, fun _ h => h, fun _ h => h.elim, ⟨[.int .i64 T, .int .i64 V], [.int .i64 B], fun _ => False, fun _ => False, rfl, fun _ h => h, fun _ h => h, fun _ h => h.elim, ⟨[.int .i64 T], [.int .i64 V], fun _ => False, fun _ => False, rfl, fun _ h => h, fun _ h => h, fun _ h => h.elim, ⟨[], [.int .i64 T], fun _ => False, fun _ => False, rfl, fun _ h => h, fun _ h => h, fun _ h => h.elim, rfl, rfl⟩, rfl⟩, rfl⟩, rfl⟩
  · exact ⟨[.slice ga gn gc], [.slice ha hn hc], ob (.slice ga gn gc), ob (.slice ha hn hc), rfl, fun q h => .inl h, fun q h => .inr h, ob_ne o1 o2 d1, ⟨[], [.slice ga gn gc], fun _ => False, _, rfl, fun _ h => h.elim, fun _ h => h, fun _ h => h.elim, rfl, own_int o1 (by show ps.length ≤ _; omega) _ (fun _ h => h)⟩, own_int o2 (by show bs.length ≤ _; omega) _ (fun _ h => h)⟩

end Go.Proofs.Ytmfbmnpfgbenmaa

/-
  Who leads: what both functions answer.
-/
namespace Go.Proofs.Ytmfbmnpfgbenmaa
open Go.RowKit

abbrev RepA : Type := (((((Unit × ((((((((((Unit × Int) × (((((((Unit × Int) × Int) × Int) × Int) × ((Unit × List Int) × List Int)) × List Int) × List (((Unit × Int) × Int) × List Int))) × Int) × Int) × Int) × List Int) × List Int) × List Int) × Int) × Int)) × ((((Unit × ((Unit × List ((Unit × ((Unit × (((Unit × Bool) × Int) × Int)) × Int)) × Int)) × List ((Unit × ((Unit × (((Unit × Bool) × Int) × Int)) × Int)) × ByteArray))) × (((Unit × List ((((Unit × (((Unit × Bool) × Int) × Int)) × ByteArray) × Int) × Int)) × Int) × Int)) × ((Unit × List ((((Unit × Int) × Int) × ByteArray) × Int)) × Int)) × Int)) × Int) × ((Unit × List Int) × Int)) × Bool)
def rUp (r : RepA) : Bool := r.2
def rRole (r : RepA) : Int := r.1.1.1.1.2.1.1.1.1.1.1.1.2
def rTerm (r : RepA) : Int := r.1.1.1.1.2.1.1.1.1.1.1.1.1.2.1.1.1.1.1.1.2
theorem at_seg {ps bs cs : List Value} {n : Nat} {v : Value} (h : ps.length = n) : (ps ++ (v :: bs ++ cs))[n]? = some v := by
  rw [List.getElem?_append_right (by omega), h, Nat.sub_self]
  rfl
theorem rep_cells {W : World} {B : Nat} {us : List Value} {r : RepA} (h : cReplica.rep W B us r) : us.length = 43 ∧ us[1]? = some (.int .i64 (rTerm r)) ∧ us[9]? = some (.int .i64 (rRole r)) ∧ us[42]? = some (.bool (rUp r)) := by
  have hl : us.length = 43 := (cReplica.len h).trans (by kernel_rfl)
  refine ⟨hl, ?_⟩
  obtain ⟨_, u4, rfl, ⟨_, u3, rfl, ⟨_, u2, rfl, ⟨_, u1, rfl, ⟨_, u0, rfl, rfl, h0⟩, h1⟩, h2⟩, h3⟩, h4⟩ := h
  have l1 : u1.length = 8 := (cState.len h1).trans (by kernel_rfl)
  have l2 : u2.length = 1 := cInt.len h2
  have l3 : u3.length = 2 := (cFile.len h3).trans (by kernel_rfl)
  have l0 : u0.length = 31 := (cServer.len h0).trans (by kernel_rfl)
  have e4 : u4 = [.bool (rUp r)] := h4
  obtain ⟨_, v9, rfl, ⟨_, v8, rfl, ⟨_, v7, rfl, ⟨_, v6, rfl, ⟨_, v5, rfl, ⟨_, v4, rfl, ⟨_, v3, rfl, ⟨_, v2, rfl, ⟨_, v1, rfl, ⟨_, v0, rfl, rfl, g0⟩, g1⟩, g2⟩, g3⟩, g4⟩, g5⟩, g6⟩, g7⟩, g8⟩, g9⟩ := h0
  have m0 : v0.length = 1 := cInt.len g0
  have m1 : v1.length = 8 := (cKeep.len g1).trans (by kernel_rfl)
  have e2 : v2 = [.int .i64 (rRole r)] := g2
  obtain ⟨_, w6, rfl, ⟨_, w5, rfl, ⟨_, w4, rfl, ⟨_, w3, rfl, ⟨_, w2, rfl, ⟨_, w1, rfl, ⟨_, w0, rfl, rfl, f0⟩, f1⟩, f2⟩, f3⟩, f4⟩, f5⟩, f6⟩ := g1
  have e0 : w0 = [.int .i64 (rTerm r)] := f0
  subst e4 e2 e0
  refine ⟨?_, ?_, ?_⟩
  · have := at_seg (ps := v0) (bs := []) (cs := w1 ++ w2 ++ w3 ++ w4 ++ w5 ++ w6 ++ ([Value.int .i64 (rRole r)] ++ v3 ++ v4 ++ v5 ++ v6 ++ v7 ++ v8 ++ v9 ++ u1 ++ u2 ++ u3 ++ [Value.bool (rUp r)])) (v := .int .i64 (rTerm r)) m0
    simpa only [List.append_assoc, List.nil_append] using this
  · have := at_seg (ps := v0 ++ ([] ++ [Value.int .i64 (rTerm r)] ++ w1 ++ w2 ++ w3 ++ w4 ++ w5 ++ w6)) (bs := []) (cs := v3 ++ v4 ++ v5 ++ v6 ++ v7 ++ v8 ++ v9 ++ u1 ++ u2 ++ u3 ++ [Value.bool (rUp r)]) (v := .int .i64 (rRole r)) (by rw [List.length_append, m0, m1])
    simpa only [List.append_assoc, List.nil_append] using this
  · rw [List.getElem?_append_right (by rw [List.length_append, List.length_append, List.length_append, l1, l2, l3, List.length_append, l0]; simp), List.length_append, List.length_append, List.length_append, l1, l2, l3, List.length_append, l0]
    rfl

theorem box_at {W : World} {p i : Nat} {us : List Value} {v : Value} (h : Box W p us) (hv : us[i]? = some v) : W.cell? ⟨p, i, none⟩ = some v := by
  obtain ⟨t, h⟩ := h
  unfold World.cell?
  rw [h]
  simpa using hv
/-- Of the first i replicas the place behind the one that leads. -/
def chF (R : List RepA) : Nat → Nat
  | 0 => 0
  | i + 1 => match R[i]? with
    | some r => if rUp r = true ∧ rRole r = 2 ∧ (chF R i = 0 ∨ ∃ q, R[chF R i - 1]? = some q ∧ rTerm r > rTerm q) then i + 1 else chF R i
    | none => chF R i
theorem chF_le (R : List RepA) : ∀ i, chF R i ≤ i
  | 0 => Nat.le_refl _
  | i + 1 => by
      have h := chF_le R i
      show (match R[i]? with | some r => if rUp r = true ∧ rRole r = 2 ∧ (chF R i = 0 ∨ ∃ q, R[chF R i - 1]? = some q ∧ rTerm r > rTerm q) then i + 1 else chF R i | none => chF R i) ≤ i + 1
      cases R[i]? with
      | none => exact Nat.le_succ_of_le h
      | some r =>
        dsimp only
        split
        · exact Nat.le_refl _
        · exact Nat.le_succ_of_le h

end Go.Proofs.Ytmfbmnpfgbenmaa

/-
  Operations that a test guards.
-/
namespace Go.Proofs.Ytmfbmnpfgbenmaa
open Go.RowKit

section
variable {P : Program} {ops : Array Oper} {rest : List Oper} {a : Act} {w w' : World} {Q : Exit → Act → World → Prop} {d : Option Tmp} {ty : TypeId} {ps : String} {af : Array Edge} {gd : Option (Nat × Bool)}

theorem wan_yes {j t : Nat} {b : Bool} {op : Op} (hj : (ops[j]?).bind (·.dst) = some t) (he : a.eval (.tmp t) = .bool b) (ht : t < a.tmps.size) : Region.wanted (⟨d, op, ty, ps, af, some (j, b)⟩ : Oper) (yielded ops a.tmps) = true := by
  have e : a.tmps[t]? = some (.bool b) := by
    have : a.tmps.getD t undef = .bool b := he
    rw [Array.getD_eq_getD_getElem?, Array.getElem?_eq_getElem ht, Option.getD_some] at this
    rw [Array.getElem?_eq_getElem ht, this]
  show (yielded ops a.tmps j == some b) = true
  unfold yielded
  rw [hj]
  simp [e]
theorem wan_no {j t : Nat} {b c : Bool} {op : Op} (hj : (ops[j]?).bind (·.dst) = some t) (he : a.eval (.tmp t) = .bool c) (hne : c ≠ b) : Region.wanted (⟨d, op, ty, ps, af, some (j, b)⟩ : Oper) (yielded ops a.tmps) = false := by
  show (yielded ops a.tmps j == some b) = false
  unfold yielded
  rw [hj]
  have : a.tmps.getD t undef = .bool c := he
  rw [Array.getD_eq_getD_getElem?] at this
  show ((match a.tmps[t]? with | some (.bool b) => some b | _ => none) == some b) = false
  cases hq : a.tmps[t]? with
  | none => rfl
  | some v =>
    rw [hq, Option.getD_some] at this
    subst this
    simp [hne]
theorem wan_un {j t : Nat} {b : Bool} {op : Op} (hj : (ops[j]?).bind (·.dst) = some t) (he : a.eval (.tmp t) = undef) : Region.wanted (⟨d, op, ty, ps, af, some (j, b)⟩ : Oper) (yielded ops a.tmps) = false := by
  show (yielded ops a.tmps j == some b) = false
  unfold yielded
  rw [hj]
  have : a.tmps.getD t undef = undef := he
  rw [Array.getD_eq_getD_getElem?] at this
  show ((match a.tmps[t]? with | some (.bool b) => some b | _ => none) == some b) = false
  cases hq : a.tmps[t]? with
  | none => rfl
  | some v =>
    rw [hq, Option.getD_some] at this
    subst this
    rfl
theorem wg_val {op : Op} {v : Value} (hw : Region.wanted (⟨d, op, ty, ps, af, gd⟩ : Oper) (yielded ops a.tmps) = true) (h : (execOp a.eval (⟨d, op, ty, ps, af, gd⟩ : Oper)).run P w = .ok (.value v) w') (k : wpList P ops Q rest (a.put d v) w') : wpList P ops Q (⟨d, op, ty, ps, af, gd⟩ :: rest) a w := by
  unfold wpList
  rw [if_pos hw]
  left
  unfold Oper.wp
  rw [h]
  exact k
theorem wg_skip {op : Op} (hw : Region.wanted (⟨d, op, ty, ps, af, gd⟩ : Oper) (yielded ops a.tmps) = false) (k : wpList P ops Q rest (a.put d undef) w) : wpList P ops Q (⟨d, op, ty, ps, af, gd⟩ :: rest) a w := wpList_skip hw k
theorem wg_no {j t : Nat} {b c : Bool} {op : Op} (hj : (ops[j]?).bind (·.dst) = some t) (he : a.eval (.tmp t) = .bool c) (hne : c ≠ b) (k : wpList P ops Q rest (a.put d undef) w) : wpList P ops Q (⟨d, op, ty, ps, af, some (j, b)⟩ :: rest) a w := wg_skip (wan_no hj he hne) k
theorem wg_yes {j t : Nat} {b : Bool} {op : Op} {v : Value} (hj : (ops[j]?).bind (·.dst) = some t) (he : a.eval (.tmp t) = .bool b) (ht : t < a.tmps.size) (h : (execOp a.eval (⟨d, op, ty, ps, af, some (j, b)⟩ : Oper)).run P w = .ok (.value v) w) (k : wpList P ops Q rest (a.put d v) w) : wpList P ops Q (⟨d, op, ty, ps, af, some (j, b)⟩ :: rest) a w := wg_val (wan_yes hj he ht) h k
variable {S : World → Prop} {fuel : Nat} {listed : Array Bool}
theorem dg_val (i d : Nat) {op : Op} {ty : TypeId} {ps : String} {af : Array Edge} {gd : Option (Nat × Bool)} {v : Value} (hi : ops[i]? = some (⟨some d, op, ty, ps, af, gd⟩ : Oper)) (hb : (Region.noSelect ops && (Region.free .any ops listed i && (Region.ready .any ops listed).contains i)) = true) (hQ : ∀ c a d v w, Q (.panic c) (a.put d v) w → Q (.panic c) a w)
    (hw : Region.wanted (⟨some d, op, ty, ps, af, gd⟩ : Oper) (yielded ops a.tmps) = true) (hy : ∀ w, S w → (execOp a.eval (⟨some d, op, ty, ps, af, gd⟩ : Oper)).run P w = .ok (.value v) w) (hS : S w)
    (h : wpAnyH P .any ops Q S fuel (listed.setIfInBounds i true) (a.put (some d) v) w) : wpAnyH P .any ops Q S (fuel + 1) listed a w := by
  rw [Bool.and_eq_true, Bool.and_eq_true] at hb
  exact wpAnyH_take hi hb.1 hb.2.1 hb.2.2 (fun c a w hq => hQ c a _ v w hq) (Or.inl ⟨hw, hy⟩) hS h
theorem dg_skip (i d : Nat) {op : Op} {ty : TypeId} {ps : String} {af : Array Edge} {gd : Option (Nat × Bool)} (hi : ops[i]? = some (⟨some d, op, ty, ps, af, gd⟩ : Oper)) (hb : (Region.noSelect ops && (Region.free .any ops listed i && (Region.ready .any ops listed).contains i)) = true) (hQ : ∀ c a d v w, Q (.panic c) (a.put d v) w → Q (.panic c) a w)
    (hw : Region.wanted (⟨some d, op, ty, ps, af, gd⟩ : Oper) (yielded ops a.tmps) = false) (hS : S w)
    (h : wpAnyH P .any ops Q S fuel (listed.setIfInBounds i true) (a.put (some d) undef) w) : wpAnyH P .any ops Q S (fuel + 1) listed a w := by
  rw [Bool.and_eq_true, Bool.and_eq_true] at hb
  exact wpAnyH_take hi hb.1 hb.2.1 hb.2.2 (fun c a w hq => hQ c a _ _ w hq) (Or.inr ⟨hw, rfl⟩) hS h
-- what single operations give
theorem ex_move {x : Operand} {v : Value} (hx : a.eval x = v) (V : World) : (execOp a.eval (⟨d, .move x, ty, ps, af, gd⟩ : Oper)).run P V = .ok (.value v) V := by rw [← hx]; rfl
theorem ex_assign {x : Operand} {v : Value} (hx : a.eval x = v) (V : World) : (execOp a.eval (⟨d, .assign x, ty, ps, af, gd⟩ : Oper)).run P V = .ok (.value v) V := by rw [← hx]; rfl
theorem ex_pickT {c x y : Operand} {v : Value} (hc : a.eval c = .bool true) (hx : a.eval x = v) (V : World) : (execOp a.eval (⟨d, .pick c x y, ty, ps, af, gd⟩ : Oper)).run P V = .ok (.value v) V := by
  subst hx
  simp [execOp, hc, asBool]
theorem ex_pickF {c x y : Operand} {v : Value} (hc : a.eval c = .bool false) (hx : a.eval y = v) (V : World) : (execOp a.eval (⟨d, .pick c x y, ty, ps, af, gd⟩ : Oper)).run P V = .ok (.value v) V := by
  subst hx
  simp [execOp, hc, asBool]
theorem ex_field {t : TypeId} {x : Operand} {i off p o : Nat} (hx : a.eval x = .pointer (some ⟨p, o, none⟩)) (h : fldB P t i off = true) (V : World) : (execOp a.eval (⟨d, .fieldAddr t x i, ty, ps, af, gd⟩ : Oper)).run P V = .ok (.value (.pointer (some ⟨p, o + off, none⟩))) V := by
  unfold fldB at h
  cases hu : P.underlying t with
  | none => rw [hu] at h; cases h
  | some e =>
    rw [hu] at h
    cases e with
    | struct fs =>
      dsimp only at h
      cases hf : fs[i]? with
      | none => rw [hf] at h; cases h
      | some f =>
        rw [hf] at h
        dsimp only at h
        cases hj : P.info? f.type with
        | none => rw [hj] at h; simp at h
        | some j =>
          rw [hj] at h
          simp at h
          obtain ⟨h1, h2⟩ := h
          simp [execOp, hx, Instr.fieldAt, Sem.run_bind, run_underlying hu, hf, Instr.sureAddr, fieldPlace, sizeOf, typeInfo, hj, h2, h1, add_E]
    | _ => cases h
theorem ex_load {tx : TypeId} {x : Operand} {p o : Nat} {v : Value} (hx : a.eval x = .pointer (some ⟨p, o, none⟩)) (ht : Sca P tx) (V : World) (hv : V.cell? ⟨p, o, none⟩ = some v) : (execOp a.eval (⟨d, .load tx x, ty, ps, af, gd⟩ : Oper)).run P V = .ok (.value v) V := by
  simp only [execOp, hx, Instr.loadAt, Instr.sureAddr, Sem.run_bind, Sem.run_pure, Result.andThen_ok, run_loadS V ht hv]
theorem ex_bin {x z : Operand} {t t' : TypeId} {op : BinOp} {u v r : Value} (hx : a.eval x = u) (hz : a.eval z = v) (V : World) (h : (do eqGuard op t x z u v; binOp op t u v : Sem Value).run P V = .ok r V) : (execOp a.eval (⟨d, .binOp op t x z t', ty, ps, af, gd⟩ : Oper)).run P V = .ok (.value r) V := by
  show (do pure (.value (← (do eqGuard op t x z _ _; binOp op t _ _ : Sem Value))) : Sem Next).run P V = _
  rw [hx, hz, Sem.run_bind, h]
  rfl
theorem ex_index {x z : Operand} {t e : TypeId} {p o n c i k : Nat} (ht : P.underlying t = some (.slice e)) (hk : (P.info? e).map (·.size) = some k) (hx : a.eval x = .slice (some ⟨p, o, none⟩) n c) (hz : a.eval z = .int .i64 i) (hi : i < n) (V : World) :
    (execOp a.eval (⟨d, .indexAddr t x z, ty, ps, af, gd⟩ : Oper)).run P V = .ok (.value (.pointer (some ⟨p, o + i * k, none⟩))) V := by
  cases hq : P.info? e with
  | none => simp [hq] at hk
  | some j =>
    have hz' : j.size = k := by simpa [hq] using hk
    simp [execOp, Instr.indexAt, asIntOf, Sem.run_bind, run_underlying ht, hx, hz, sizeOf, typeInfo, hq, hz', add_E, hi]
theorem run_eqi {ti : TypeId} {x y : Operand} {m n : Int} (w : World) : (do eqGuard .eql ti x y (.int .i64 m) (.int .i64 n); binOp .eql ti (.int .i64 m) (.int .i64 n) : Sem Value).run P w = .ok (.bool (m == n)) w := by
  simp [eqGuard, binOp, Op.intCmp]
theorem run_gtr {ti : TypeId} {x y : Operand} {m n : Int} (w : World) : (do eqGuard .gtr ti x y (.int .i64 m) (.int .i64 n); binOp .gtr ti (.int .i64 m) (.int .i64 n) : Sem Value).run P w = .ok (.bool (decide (m > n))) w := by
  simp [eqGuard, binOp, Op.intCmp]
end

end Go.Proofs.Ytmfbmnpfgbenmaa
