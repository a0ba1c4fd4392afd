/-
  An append of bytes, from wherever they come, to a row of bytes that the call itself has made: the new row and where it lies.
-/
import Derived.Test.YtfhlplpiojhhmaaCNum
import Derived.Deep.AppendSrc
namespace Go.Proofs.Ytfhlplpiojhhmaa
open Go.RowKit

theorem map_len (zs : List Int) : (zs.map (Value.int .u8)).length = zs.length := List.length_map _

theorem app_run (w : World) (B g n cap : Nat) (zs ns : List Int) (tx ty : TypeId) (x : Value) (hn : n = zs.length) (hown : Own w B (.slice (some ⟨g, 0, none⟩) n cap) zs)
    (hs : Src Try.prog 1 tx x ns.length (ns.map (Value.int .u8)) w) (hl : n + ns.length ≤ 1000000000) (hB : B ≤ w.heap.size) :
    ∃ h c w', (Builtin.append_ #[22, tx] ty #[.slice (some ⟨g, 0, none⟩) n cap, x]).run Try.prog w = .ok (.slice (some ⟨h, 0, none⟩) (n + ns.length) c) w' ∧
      Own w' B (.slice (some ⟨h, 0, none⟩) (n + ns.length) c) (zs ++ ns) ∧ w.grownBy w' (some g) ∧ (h = g ∨ h = w.heap.size) := by
  obtain ⟨i, hi, hz0, hz1, hz2⟩ := info_parts Try.infoU8
  have ht := Try.underlying22
  subst hn
  have hs' : Src Try.prog i.size tx x ns.length (ns.map (Value.int .u8)) w := by rw [hz1]; exact hs
  have hlen : ((zs ++ ns).map (Value.int .u8)).length = zs.length + ns.length := by simp
  rcases hown.2 with ⟨hv, _⟩ | ⟨g', cap', cur, hv, hbg, hg, hnc, hcm, hcs, htake⟩
  · simp at hv
  simp at hv
  obtain ⟨rfl, rfl⟩ := hv
  rw [Nat.mul_one] at hcs htake
  by_cases hroom : zs.length + ns.length ≤ cap
  · have hst := run_storeCells_at Try.prog g zs.length 5 (ns.map (Value.int .u8)) 0 cur w hg (by simp; omega) hs.one
    simp only [Nat.add_zero] at hst
    have hr : (Builtin.append_ #[22, tx] ty #[.slice (some ⟨g, 0, none⟩) zs.length cap, x]).run Try.prog w = .ok (.slice (some ⟨g, 0, none⟩) (zs.length + ns.length) cap) (w.setRow g (cur.toList.take zs.length ++ ns.map (Value.int .u8) ++ cur.toList.drop (zs.length + (ns.map (Value.int .u8)).length)).toArray) := by
      rcases hs.kind with ⟨e', hk⟩ | hk <;> simp [Builtin.append_, run_underlying ht, run_underlying hk, sizeOf, typeInfo, hi, hz1, hs.len, hroom, hs.cells, Addr.add_lit, hst]
    refine ⟨g, cap, _, hr, ⟨by simp, .inr ⟨g, cap, _, by simp, hbg, setRow_heap w g cur _ 5 _ hg, by simpa using hroom, hcm, ?_, ?_⟩⟩, ⟨rfl, rfl, rfl, by simp, fun k _ hk => setRow_other w g k _ (fun e => hk (by rw [e]))⟩, Or.inl rfl⟩
    · simp only [List.size_toArray, List.length_append, List.length_take, List.length_drop, Array.length_toList, map_len]
      omega
    · rw [htake, List.map_append, Nat.mul_one, List.length_append, ← map_len zs, ← map_len ns, ← List.length_append]
      exact List.take_left
  · have holds := hown.cells (g := g) rfl
    have hold : (Builtin.firstCells i.size zs.length (.slice (some ⟨g, 0, none⟩) zs.length cap)).run Try.prog w.drew = .ok (zs.map (Value.int .u8)).toArray w.drew := by
      rw [hz1]; exact run_firstCells_some w.drew 1 zs.length ⟨g, 0, none⟩ zs.length cap _ (by simp) (by simpa using holds)
    have hr := run_append_grow_src (P := Try.prog) w 22 tx ty 5 i (.int .u8 0) ht hi hz0 (some ⟨g, 0, none⟩) zs.length cap _ hold x ns.length _ hs' (by omega) (by omega) (growslice_fits (by omega) (by rw [hz2]; omega))
    have hge := grownCap_ge w (zs.length + ns.length) cap 5
    have hcm' := grownCap_le_maxLen w (zs.length + ns.length) cap 5 (by unfold maxLen; omega)
    refine ⟨w.heap.size, _, _, hr, ⟨by simp, .inr ⟨w.heap.size, _, _, by simp, hB, heap_alloc_new w.drew _, by simpa using hge, hcm', ?_, ?_⟩⟩, ⟨rfl, rfl, rfl, by simp, fun k hk _ => Below.heap_alloc w.drew _ k hk⟩, Or.inr rfl⟩
    · simp [size_zeroCells, Value.cells]; omega
    · have e2 : zs.length + ns.length = (zs.map (Value.int .u8) ++ ns.map (Value.int .u8)).length := by simp
      rw [Array.toList_append, List.map_append, Nat.mul_one, List.length_append, e2]
      exact List.take_left

theorem wp_app {o : Oper} {a : Act} {K : Act → World → Prop} {Q : Exit → Act → World → Prop} (w : World) (s x : Operand) (tx : TypeId)
    (ho : o.op = .call { callee := .builtin .append, args := #[s, x], argTypes := #[22, tx] })
    (B g n cap : Nat) (zs ns : List Int) (v xv : Value) (hsv : a.eval s = v) (hv : v = .slice (some ⟨g, 0, none⟩) n cap) (hn : n = zs.length) (hown : Own w B (.slice (some ⟨g, 0, none⟩) n cap) zs)
    (hx : a.eval x = xv) (hs : Src Try.prog 1 tx xv ns.length (ns.map (Value.int .u8)) w) (hl : n + ns.length ≤ 1000000000) (hB : B ≤ w.heap.size)
    (h : ∀ h c w', Own w' B (.slice (some ⟨h, 0, none⟩) (n + ns.length) c) (zs ++ ns) → w.grownBy w' (some g) → (h = g ∨ h = w.heap.size) → K (a.put o.dst (.slice (some ⟨h, 0, none⟩) (n + ns.length) c)) w') : o.wp Try.prog a w K Q := by
  obtain ⟨b, c, w', hr, h2, h3, h4⟩ := app_run w B g n cap zs ns tx o.type xv hn hown hs hl hB
  subst hv
  unfold Oper.wp execOp
  simp only [ho, resolve, invoke, builtin, Sem.run_bind, Sem.run_pure, Result.andThen_ok, List.map_toArray, List.map_cons, List.map_nil, hsv, hx, hr]
  exact h b c w' h2 h3 h4

theorem wpList_app {ops : Array Oper} {rest : List Oper} {o : Oper} {a : Act} {Q : Exit → Act → World → Prop} (w : World) (hgd : o.guard = none) (s x : Operand) (tx : TypeId)
    (ho : o.op = .call { callee := .builtin .append, args := #[s, x], argTypes := #[22, tx] })
    (B g n cap : Nat) (zs ns : List Int) (v xv : Value) (hsv : a.eval s = v) (hv : v = .slice (some ⟨g, 0, none⟩) n cap) (hn : n = zs.length) (hown : Own w B (.slice (some ⟨g, 0, none⟩) n cap) zs)
    (hx : a.eval x = xv) (hs : Src Try.prog 1 tx xv ns.length (ns.map (Value.int .u8)) w) (hl : n + ns.length ≤ 1000000000) (hB : B ≤ w.heap.size)
    (h : ∀ h c w', Own w' B (.slice (some ⟨h, 0, none⟩) (n + ns.length) c) (zs ++ ns) → w.grownBy w' (some g) → (h = g ∨ h = w.heap.size) → wpList Try.prog ops Q rest (a.put o.dst (.slice (some ⟨h, 0, none⟩) (n + ns.length) c)) w') : wpList Try.prog ops Q (o :: rest) a w :=
  wpList_plain hgd fun _ hK => wp_app w s x tx ho B g n cap zs ns v xv hsv hv hn hown hx hs hl hB fun b c w' h2 h3 h4 => hK _ _ (h b c w' h2 h3 h4)

theorem step_app {ops : Array Oper} {o : Oper} {a : Act} {K : Act → World → Prop} {Q : Exit → Act → World → Prop} {E : Prop} (w : World) (hgd : o.guard = none) (s x : Operand) (tx : TypeId)
    (ho : o.op = .call { callee := .builtin .append, args := #[s, x], argTypes := #[22, tx] })
    (B g n cap : Nat) (zs ns : List Int) (v xv : Value) (hsv : a.eval s = v) (hv : v = .slice (some ⟨g, 0, none⟩) n cap) (hn : n = zs.length) (hown : Own w B (.slice (some ⟨g, 0, none⟩) n cap) zs)
    (hx : a.eval x = xv) (hs : Src Try.prog 1 tx xv ns.length (ns.map (Value.int .u8)) w) (hl : n + ns.length ≤ 1000000000) (hB : B ≤ w.heap.size)
    (h : ∀ h c w', Own w' B (.slice (some ⟨h, 0, none⟩) (n + ns.length) c) (zs ++ ns) → w.grownBy w' (some g) → (h = g ∨ h = w.heap.size) → K (a.put o.dst (.slice (some ⟨h, 0, none⟩) (n + ns.length) c)) w') :
    if Region.wanted o (yielded ops a.tmps) = true then Oper.wp Try.prog o a w K Q else E := by
  have hw : Region.wanted o (yielded ops a.tmps) = true := by simp [Region.wanted, hgd]
  rw [if_pos hw]
  exact wp_app w s x tx ho B g n cap zs ns v xv hsv hv hn hown hx hs hl hB h

theorem Own.head {w : World} {B n cap : Nat} {a : Option Addr} {zs : List Int} (h : Own w B (.slice a n cap) zs) (hp : 0 < zs.length) : ∃ g, a = some ⟨g, 0, none⟩ ∧ B ≤ g ∧ g < w.heap.size := by
  obtain ⟨g, c, hv, h1, h2⟩ := World.ownsRow.form h hp
  simp at hv
  exact ⟨g, hv.1, h1, h2⟩
/-- Bytes that lie in memory as a source. -/
theorem src_byt {w : World} {a : Option Addr} {zs : List Int} (c : Nat) (h : Byt w a zs) (hc : a = none → c = 0) : Src Try.prog 1 22 (.slice a zs.length c) zs.length (zs.map (Value.int .u8)) w := by
  cases a with
  | none =>
    have : zs = [] := by
      cases zs with
      | nil => rfl
      | cons z t => obtain ⟨p, o, z', e, _⟩ := h 0 (by simp); cases e
    subst this
    rw [hc rfl]
    exact Src.ofNil (P := Try.prog) w Try.underlying22 0
  | some ad =>
    refine Src.ofSlice (P := Try.prog) w Try.underlying22 ad zs.length c _ (by simp) (fun j u hu => ?_) (ints_oneCell _ _)
    rw [List.getElem?_map] at hu
    obtain ⟨z, hz, rfl⟩ := Option.map_eq_some_iff.1 hu
    have hj : j < zs.length := by rcases Nat.lt_or_ge j zs.length with h1 | h1; exact h1; rw [List.getElem?_eq_none h1] at hz; cases hz
    obtain ⟨p, o, z', e, hp, hc', hz'⟩ := h j hj
    cases e
    rw [hz] at hz'
    cases hz'
    have ea : (⟨p, o, none⟩ : Addr).add j = ⟨p, o + j, none⟩ := by unfold Addr.add; split <;> simp_all
    rw [ea]; exact hc'
/-- A text's bytes. -/
def bys (s : ByteArray) : List Int := s.data.toList.map fun b => (b.toNat : Int)
theorem bys_len (s : ByteArray) : (bys s).length = s.size := by unfold bys; rw [List.length_map, Array.length_toList]; rfl
theorem bys_oct (s : ByteArray) : Oct (bys s) := by
  intro z hz
  obtain ⟨b, _, rfl⟩ := List.mem_map.1 hz
  have := b.toNat_lt; omega
theorem src_str {w : World} (s : ByteArray) : Src Try.prog 1 9 (.string s) (bys s).length ((bys s).map (Value.int .u8)) w := by
  have e : (bys s).map (Value.int .u8) = byteCells s := by unfold bys byteCells; rw [List.map_map]; rfl
  rw [e, bys_len]
  exact Src.ofString (P := Try.prog) w Try.underlying9 s

end Go.Proofs.Ytfhlplpiojhhmaa
