/-
  The specification's Chief.
-/
import Derived.Test.YtmfbmnpfgbenmaaEE
namespace Go.Proofs.Ytmfbmnpfgbenmaa
open Go.RowKit

theorem box_head {W : World} {p : Nat} {v : Value} {ts : List Value} (h : Box W p (v :: ts)) : W.cell? ⟨p, 0, none⟩ = some v := box_at h rfl
/-- What is known of a replica in its box. -/
theorem cec_of {U : World} {q5 p0 B : Nat} {us ts : List Value} {r : RepA} {sl : Value} {W : World} (hr : cReplica.rep W B us r) (hu : Box U q5 us) (hp : Box U p0 (sl :: ts)) : CeC q5 p0 (rUp r) (rRole r) (rTerm r) sl U := by
  obtain ⟨_, k1, k9, k42⟩ := rep_cells hr
  exact ⟨box_at hu k42, box_at hu k9, box_at hu k1, box_head hp⟩
theorem chF_step {R : List RepA} {i : Nat} {r : RepA} (h : R[i]? = some r) : chF R (i + 1) = if rUp r = true ∧ rRole r = 2 ∧ (chF R i = 0 ∨ ∃ z, R[chF R i - 1]? = some z ∧ rTerm r > rTerm z) then i + 1 else chF R i := by
  show (match R[i]? with | some r => _ | none => _) = _
  rw [h]
/-- The cell that holds the term of one of the row. -/
theorem term_at {w V : World} {p q m : Nat} {r : RepA} (h : At cReplica w 0 (some ⟨p, q, none⟩) m r) (hb : Below w.heap.size w V) : V.cell? ⟨p, q + m * 43 + 0 + 1 + 0, none⟩ = some (.int .i64 (rTerm r)) := by
  obtain ⟨p', q', us, e, _, hp, hs, hr⟩ := h
  simp only [Option.some.injEq, Addr.mk.injEq, and_true] at e
  obtain ⟨rfl, rfl⟩ := e
  obtain ⟨_, k1, _, _⟩ := rep_cells hr
  have hk : cReplica.k = 43 := by kernel_rfl
  rw [hk] at hs
  exact (hs.frm (Fr.of hb) (Nat.zero_le _) hp) 1 _ k1

set_option maxRecDepth 10000 in
set_option maxHeartbeats 4000000 in
theorem sChief (ts : List Value) (R : List RepA) (o : Option Addr) (n c : Nat) (w : World) (hn : n = R.length) (hl : n ≤ 1048576) (hr : ∀ j x, R[j]? = some x → At cReplica w 0 o j x) :
    Calls Try.prog 14 #[vA (.slice o n c :: ts)] w fun e w' => e = .returned (.int .i64 (chF R n)) ∧ Below w.heap.size w w' := by
  refine calls_of_wp Try.func14 rfl ?_
  have hpan := pan_body (P := Try.prog) (fn := Try.f14) (R := fun e w' => e = .returned (.int .i64 (chF R n)) ∧ Below w.heap.size w w')
  have hsz : (⟨#[vA (.slice o n c :: ts)] ++ Array.replicate (Try.f14.ntmps - (#[vA (.slice o n c :: ts)] : Array Value).size) undef, []⟩ : Act).tmps.size = 49 := by
    rw [Array.size_append, Array.size_replicate]
    rfl
  have hdf : (⟨#[vA (.slice o n c :: ts)] ++ Array.replicate (Try.f14.ntmps - (#[vA (.slice o n c :: ts)] : Array Value).size) undef, []⟩ : Act).defers = [] := rfl
  have h00 : (⟨#[vA (.slice o n c :: ts)] ++ Array.replicate (Try.f14.ntmps - (#[vA (.slice o n c :: ts)] : Array Value).size) undef, []⟩ : Act).eval (.tmp 0) = vA (.slice o n c :: ts) := frame_0
  generalize (⟨#[vA (.slice o n c :: ts)] ++ Array.replicate (Try.f14.ntmps - (#[vA (.slice o n c :: ts)] : Array Value).size) undef, []⟩ : Act) = a at *
  refine wp_seq (wp_region_list ?_)
  refine wpl_box (us := .slice o n c :: ts) (by rw [h00]; rfl) ?_
  intro V b0 l0 z0
  refine wpl_assign (wpl_nil (wp_seq (wp_region_list (wpl_assign (wpl_nil (wp_seq (wp_seq (wp_region_list (wpl_assign (wpl_nil (wp_block ?_)))))))))))
  refine wp_loop (fun a W => ∃ i, i ≤ n ∧ a.tmps.size = 49 ∧ a.defers = [] ∧ a.eval (.tmp 1) = .pointer (some ⟨w.heap.size, 0, none⟩) ∧ a.eval (.tmp 3) = .int .i64 (chF R i) ∧ a.eval (.tmp 4) = .int .i64 i ∧ Box W w.heap.size (.slice o n c :: ts) ∧ Below w.heap.size w W) (fun a _ => n - (match a.eval (.tmp 4) with | .int _ z => z.toNat | _ => 0))
    ⟨0, Nat.zero_le _, put_sz.trans (put_sz.trans (put_sz.trans (put_sz.trans hsz))), put_df.trans (put_df.trans (put_df.trans (put_df.trans hdf))), (put_ne (by omega)).trans ((put_ne (by omega)).trans ((put_ne (by omega)).trans (put_eq (by omega)))), (put_ne (by omega)).trans (put_eq (by rw [put_sz, put_sz]; omega)), put_eq (by rw [put_sz, put_sz, put_sz]; omega), b0, l0⟩ ?_
  clear hsz hdf h00 b0 l0 z0
  rintro a W ⟨i, hin, hz, hd, h1, h3, h4, hb, hbl⟩
  refine wp_seq (wp_seq (wp_region_list ?_))
  refine wpl_move ?_
  rw [h4]
  refine wpl_field ((put_ne (by omega)).trans h1) (off := 0) (by kernel_rfl) ?_
  refine wpl_loadS rfl 23 (.tmp 7) rfl (put_eq (by rw [put_sz]; omega)) (.slice o n c) ⟨by kernel_rfl, by kernel_rfl⟩ (box_head hb) ?_
  refine wpl_len (by kernel_rfl) (put_eq (by rw [put_sz, put_sz]; omega)) ?_
  refine wpl_bin (u := .int .i64 i) (v := .int .i64 n) ((put_ne (by omega)).trans ((put_ne (by omega)).trans ((put_ne (by omega)).trans (put_eq (by omega))))) (put_eq (by rw [put_sz, put_sz, put_sz]; omega)) (run_lss W) (wpl_nil ?_)
  have ez : ∀ u6 u7 u8 u9 u10 : Value, (((((a.put (some 6) u6).put (some 7) u7).put (some 8) u8).put (some 9) u9).put (some 10) u10).tmps.size = 49 := fun _ _ _ _ _ => put_sz.trans (put_sz.trans (put_sz.trans (put_sz.trans (put_sz.trans hz))))
  have ed : ∀ u6 u7 u8 u9 u10 : Value, (((((a.put (some 6) u6).put (some 7) u7).put (some 8) u8).put (some 9) u9).put (some 10) u10).defers = [] := fun _ _ _ _ _ => put_df.trans (put_df.trans (put_df.trans (put_df.trans (put_df.trans hd))))
  have ek : ∀ (t : Nat) (u6 u7 u8 u9 u10 : Value), t < 6 → (((((a.put (some 6) u6).put (some 7) u7).put (some 8) u8).put (some 9) u9).put (some 10) u10).eval (.tmp t) = a.eval (.tmp t) := fun t _ _ _ _ _ ht => (put_ne (by omega)).trans ((put_ne (by omega)).trans ((put_ne (by omega)).trans ((put_ne (by omega)).trans (put_ne (by omega)))))
  by_cases hlt : i < n
  · rw [decide_eq_true (by omega : (i : Int) < (n : Int))]
    refine wp_cond_true (put_eq (by rw [put_sz, put_sz, put_sz, put_sz]; omega)) (wp_skip (wp_seq (wp_block ?_)))
    have gz := ez (.int .i64 i) (.pointer (some ⟨w.heap.size, 0, none⟩)) (.slice o n c) (.int .i64 n) (.bool true)
    have gd := ed (.int .i64 i) (.pointer (some ⟨w.heap.size, 0, none⟩)) (.slice o n c) (.int .i64 n) (.bool true)
    have gk := fun t ht => ek t (.int .i64 i) (.pointer (some ⟨w.heap.size, 0, none⟩)) (.slice o n c) (.int .i64 n) (.bool true) ht
    generalize (((((a.put (some 6) (.int .i64 i)).put (some 7) (.pointer (some ⟨w.heap.size, 0, none⟩))).put (some 8) (.slice o n c)).put (some 9) (.int .i64 n)).put (some 10) (.bool true)) = A at *
    have g1 := (gk 1 (by omega)).trans h1
    have g3 := (gk 3 (by omega)).trans h3
    have g4 := (gk 4 (by omega)).trans h4
    clear ez ed ek gk
    obtain ⟨r, hri⟩ : ∃ r, R[i]? = some r := ⟨_, List.getElem?_eq_getElem (by omega)⟩
    obtain ⟨p, q, us, rfl, _, hp, hseg, hrep⟩ := hr i r hri
    have hul : us.length = 43 := (cReplica.len hrep).trans (by kernel_rfl)
    have hk43 : cReplica.k = 43 := by kernel_rfl
    rw [hk43] at hseg
    refine wp_seq (wp_region_list ?_)
    refine wpl_field g1 (off := 0) (by kernel_rfl) ?_
    refine wpl_loadS rfl 23 (.tmp 13) rfl (put_eq (by omega)) (.slice (some ⟨p, q, none⟩) n c) ⟨by kernel_rfl, by kernel_rfl⟩ (box_head hb) ?_
    refine wpl_move ?_
    rw [put_ne (by omega), put_ne (by omega), g4]
    refine wpl_index (e := 76) (k := 43) (by kernel_rfl) (by kernel_rfl) ((put_ne (by omega)).trans (put_eq (by rw [put_sz]; omega))) (put_eq (by rw [put_sz, put_sz]; omega)) hlt ?_
    refine wpl_load rfl 76 (.tmp 16) rfl (put_eq (by rw [put_sz, put_sz, put_sz]; omega)) us (n := 43) ⟨by kernel_rfl, by kernel_rfl⟩ hul (hseg.frm (Fr.of hbl) (Nat.zero_le _) hp) ?_
    refine wpl_alloc (zs := [.int .i64 0, .int .i64 0, .int .i64 0, .int .i64 0, .int .i64 0, .slice none 0 0, .slice none 0 0, .slice none 0 0, .slice none 0 0, .int .i64 0, .int .i64 0, .int .i64 0, .slice none 0 0, .int .i64 0, .int .i64 0, .int .i64 0, .int .i64 0, .int .i64 0, .int .i64 0, .int .i64 0, .int .i64 0, .int .i64 0, .int .i64 0, .int .i64 0, .int .i64 0, .int .i64 0, .int .i64 0, .int .i64 0, .int .i64 0, .int .i64 0, .int .i64 0, .slice none 0 0, .slice none 0 0, .slice none 0 0, .int .i64 0, .int .i64 0, .slice none 0 0, .int .i64 0, .int .i64 0, .int .i64 0, .slice none 0 0, .int .i64 0, .bool false]) (z := .agg #[.int .i64 0, .int .i64 0, .int .i64 0, .int .i64 0, .int .i64 0, .slice none 0 0, .slice none 0 0, .slice none 0 0, .slice none 0 0, .int .i64 0, .int .i64 0, .int .i64 0, .slice none 0 0, .int .i64 0, .int .i64 0, .int .i64 0, .int .i64 0, .int .i64 0, .int .i64 0, .int .i64 0, .int .i64 0, .int .i64 0, .int .i64 0, .int .i64 0, .int .i64 0, .int .i64 0, .int .i64 0, .int .i64 0, .int .i64 0, .int .i64 0, .int .i64 0, .slice none 0 0, .slice none 0 0, .slice none 0 0, .int .i64 0, .int .i64 0, .slice none 0 0, .int .i64 0, .int .i64 0, .int .i64 0, .slice none 0 0, .int .i64 0, .bool false]) (by kernel_rfl) rfl ?_
    intro V bV lV zV
    refine wpl_store rfl 76 (.tmp 5) (.tmp 17) rfl (put_eq (by rw [put_sz, put_sz, put_sz, put_sz, put_sz]; omega)) ((put_ne (by omega)).trans (put_eq (by rw [put_sz, put_sz, put_sz, put_sz]; omega))) us [] [.int .i64 0, .int .i64 0, .int .i64 0, .int .i64 0, .int .i64 0, .slice none 0 0, .slice none 0 0, .slice none 0 0, .slice none 0 0, .int .i64 0, .int .i64 0, .int .i64 0, .slice none 0 0, .int .i64 0, .int .i64 0, .int .i64 0, .int .i64 0, .int .i64 0, .int .i64 0, .int .i64 0, .int .i64 0, .int .i64 0, .int .i64 0, .int .i64 0, .int .i64 0, .int .i64 0, .int .i64 0, .int .i64 0, .int .i64 0, .int .i64 0, .int .i64 0, .slice none 0 0, .slice none 0 0, .slice none 0 0, .int .i64 0, .int .i64 0, .slice none 0 0, .int .i64 0, .int .i64 0, .int .i64 0, .slice none 0 0, .int .i64 0, .bool false] [] (n := 43) rfl (cReplica.one hrep) (by kernel_rfl) hul (by rw [List.nil_append, List.append_nil]; exact bV) rfl (by kernel_rfl) ?_
    intro U bU gU zU
    rw [List.nil_append, List.append_nil] at bU
    have hbs := hb.lt
    have bP : Box U w.heap.size (.slice (some ⟨p, q, none⟩) n c :: ts) := (hb.later lV).other gU (by omega)
    have bB : Below w.heap.size w U := by
      have hv := hbl.trans (lV.mono hbl.size)
      exact hv.grown gU hv.size (fun k hk => by have := Option.some.inj hk; omega)
    have hce := cec_of hrep bU bP
    refine wpl_nil (wp_seq ?_)
    have SL : SlC ((((((((A.put (some 13) (.pointer (some ⟨w.heap.size, 0, none⟩))).put (some 14) (.slice (some ⟨p, q, none⟩) n c)).put (some 15) (.int .i64 i)).put (some 16) (.pointer (some ⟨p, q + i * 43, none⟩))).put (some 17) (.agg us.toArray)).put (some 5) (.pointer (some ⟨W.heap.size, 0, none⟩)))).put none undef) (A.eval (.tmp 0)) w.heap.size (chF R i) i W.heap.size :=
      ⟨put_sz.trans (put_sz.trans (put_sz.trans (put_sz.trans (put_sz.trans (put_sz.trans (put_sz.trans gz)))))), put_df.trans (put_df.trans (put_df.trans (put_df.trans (put_df.trans (put_df.trans (put_df.trans gd)))))),
        ev0.trans ((put_ne (by omega)).trans ((put_ne (by omega)).trans ((put_ne (by omega)).trans ((put_ne (by omega)).trans ((put_ne (by omega)).trans (put_ne (by omega))))))),
        ev0.trans ((put_ne (by omega)).trans ((put_ne (by omega)).trans ((put_ne (by omega)).trans ((put_ne (by omega)).trans ((put_ne (by omega)).trans ((put_ne (by omega)).trans g1)))))),
        ev0.trans ((put_ne (by omega)).trans ((put_ne (by omega)).trans ((put_ne (by omega)).trans ((put_ne (by omega)).trans ((put_ne (by omega)).trans ((put_ne (by omega)).trans g3)))))),
        ev0.trans ((put_ne (by omega)).trans ((put_ne (by omega)).trans ((put_ne (by omega)).trans ((put_ne (by omega)).trans ((put_ne (by omega)).trans ((put_ne (by omega)).trans g4)))))),
        ev0.trans (put_eq (by rw [put_sz, put_sz, put_sz, put_sz, put_sz]; omega))⟩
    have hst := chF_step hri
    have hle := chF_le R i
    -- behind the test
    have fin : ∀ (a' : Act) (V : World) (t : Bool), SlC a' (A.eval (.tmp 0)) w.heap.size (chF R i) i W.heap.size → a'.eval (.tmp 45) = .bool t → Below w.heap.size w V → Box V w.heap.size (.slice (some ⟨p, q, none⟩) n c :: ts) → chF R (i + 1) = (if t = true then i + 1 else chF R i) →
        ∀ Q : Exit → Act → World → Prop, (∀ a', a'.tmps.size = 49 → a'.defers = [] → a'.eval (.tmp 1) = .pointer (some ⟨w.heap.size, 0, none⟩) → a'.eval (.tmp 3) = .int .i64 (chF R (i + 1)) → a'.eval (.tmp 4) = .int .i64 i → Q .normal a' V) →
        Code.wp Try.prog (Code.cond (.tmp 45) (Code.region 7 #[⟨some 46, .move (.tmp 4), 3, "l16_cluster.go:232", #[], none⟩, ⟨some 47, .binOp .add 3 (.tmp 46) (.const (.int .i64 1)) 3, 3, "l16_cluster.go:232", #[⟨0, .data⟩], none⟩, ⟨some 3, .assign (.tmp 47), 3, "l16_cluster.go:232", #[⟨1, .data⟩, ⟨0, .phase⟩, ⟨1, .phase⟩], none⟩] false) .skip) Q a' V := by
      intro a' V t S h45 _ _ hch Q k
      have sz := S.sz
      cases t
      · rw [if_neg (by decide)] at hch
        exact wp_cond_false h45 (wp_skip (k a' S.sz S.df S.e1 (by rw [hch]; exact S.e3) S.e4))
      · rw [if_pos rfl] at hch
        refine wp_cond_true h45 (wp_region_list ?_)
        refine wpl_move ?_
        rw [S.e4]
        refine wpl_bin (u := .int .i64 i) (v := .int .i64 1) (put_eq (by omega)) rfl (run_inc V (by omega) (by omega)) ?_
        refine wpl_assign (wpl_nil ?_)
        rw [put_eq (by rw [put_sz]; omega)]
        exact k _ (put_sz.trans (put_sz.trans (put_sz.trans sz))) (put_df.trans (put_df.trans (put_df.trans S.df))) ((put_ne (by omega)).trans ((put_ne (by omega)).trans ((put_ne (by omega)).trans S.e1))) (by rw [hch]; exact (put_eq (by rw [put_sz, put_sz]; omega)).trans (by congr 1)) ((put_ne (by omega)).trans ((put_ne (by omega)).trans ((put_ne (by omega)).trans S.e4)))
    -- the round's end
    have rnd : ∀ (a' : Act) (V : World), a'.tmps.size = 49 → a'.defers = [] → a'.eval (.tmp 1) = .pointer (some ⟨w.heap.size, 0, none⟩) → a'.eval (.tmp 3) = .int .i64 (chF R (i + 1)) → a'.eval (.tmp 4) = .int .i64 i → Below w.heap.size w V → Box V w.heap.size (.slice (some ⟨p, q, none⟩) n c :: ts) →
        ∀ Q : Exit → Act → World → Prop, (∀ a', a'.tmps.size = 49 → a'.defers = [] → a'.eval (.tmp 1) = .pointer (some ⟨w.heap.size, 0, none⟩) → a'.eval (.tmp 3) = .int .i64 (chF R (i + 1)) → a'.eval (.tmp 4) = .int .i64 (i + 1 : Nat) → Q .normal a' V) →
        Code.wp Try.prog (Code.region 4 #[⟨some 11, .move (.tmp 4), 3, "l16_cluster.go:229", #[], none⟩, ⟨some 12, .binOp .add 3 (.tmp 11) (.const (.int .i64 1)) 3, 3, "l16_cluster.go:229", #[⟨0, .data⟩], none⟩, ⟨some 4, .assign (.tmp 12), 3, "l16_cluster.go:229", #[⟨1, .data⟩, ⟨0, .phase⟩, ⟨1, .phase⟩], none⟩] false) Q a' V := by
      intro a' V sz df e1 e3 e4 _ _ Q k
      refine wp_region_list ?_
      refine wpl_move ?_
      rw [e4]
      refine wpl_bin (u := .int .i64 i) (v := .int .i64 1) (put_eq (by omega)) rfl (run_inc V (by omega) (by omega)) ?_
      refine wpl_assign (wpl_nil ?_)
      rw [put_eq (by rw [put_sz]; omega)]
      exact k _ (put_sz.trans (put_sz.trans (put_sz.trans sz))) (put_df.trans (put_df.trans (put_df.trans df))) ((put_ne (by omega)).trans ((put_ne (by omega)).trans ((put_ne (by omega)).trans e1))) ((put_ne (by omega)).trans ((put_ne (by omega)).trans ((put_ne (by omega)).trans e3))) ((put_eq (by rw [put_sz, put_sz]; omega)).trans (by congr 1))
    have bD : Below w.heap.size w U.drew := bB.drew
    have pD : Box U.drew w.heap.size (.slice (some ⟨p, q, none⟩) n c :: ts) := bP.later (Below.refl _ U).drew
    have meas : ∀ a' : Act, a'.eval (.tmp 4) = .int .i64 (i + 1 : Nat) → n - (match a'.eval (.tmp 4) with | .int _ z => z.toNat | _ => 0) < n - (i : Int).toNat := by
      intro a' e
      rw [e]
      show n - ((i + 1 : Nat) : Int).toNat < n - (i : Int).toNat
      omega
    generalize hup : rUp r = up at *
    generalize hro : rRole r = ro at *
    cases up
    · refine regS_a (fun c a d v w h => hpan c a d v w h) SL hce ?_
      intro a' S' h45
      refine fin a' _ false S' h45 bD pD (by rw [hst]; simp) _ ?_
      intro a2 y1 y2 y3 y4 y5
      refine rnd a2 _ y1 y2 y3 y4 y5 bD pD _ ?_
      intro a3 z1 z2 z3 z4 z5
      exact ⟨⟨i + 1, hlt, z1, z2, z3, z4, z5, pD, bD⟩, meas a3 z5⟩
    · by_cases h2 : ro = 2
      · subst h2
        rcases Nat.eq_zero_or_pos (chF R i) with h0 | h0
        · rw [h0] at SL
          refine regS_c (fun c a d v w h => hpan c a d v w h) SL hce ?_
          intro a' S' h45
          have S2 : SlC a' (A.eval (.tmp 0)) w.heap.size (chF R i) i W.heap.size := by rw [h0]; exact S'
          refine fin a' _ true S2 h45 bD pD (by rw [hst, h0]; simp) _ ?_
          intro a2 y1 y2 y3 y4 y5
          refine rnd a2 _ y1 y2 y3 y4 y5 bD pD _ ?_
          intro a3 z1 z2 z3 z4 z5
          exact ⟨⟨i + 1, hlt, z1, z2, z3, z4, z5, pD, bD⟩, meas a3 z5⟩
        · obtain ⟨m, hm⟩ : ∃ m, chF R i = m + 1 := ⟨chF R i - 1, by omega⟩
          obtain ⟨z, hz'⟩ : ∃ z, R[m]? = some z := ⟨_, List.getElem?_eq_getElem (by omega)⟩
          rw [hm] at SL
          refine regS_d (m := m) (tm := rTerm z) (by omega) hl (fun c a d v w h => hpan c a d v w h) SL hce (term_at (hr m z hz') bB) ?_
          intro a' S' h45
          have S2 : SlC a' (A.eval (.tmp 0)) w.heap.size (chF R i) i W.heap.size := by rw [hm]; exact S'
          refine fin a' _ (decide (rTerm r > rTerm z)) S2 h45 bD pD ?_ _ ?_
          · rw [hst, hm]
            simp only [Nat.add_sub_cancel, hz', Option.some.injEq, exists_eq_left', decide_eq_true_eq]
            by_cases hg : rTerm r > rTerm z
            · rw [if_pos ⟨trivial, trivial, Or.inr hg⟩, if_pos hg]
            · rw [if_neg (fun hq => hq.2.2.elim (fun h => by omega) hg), if_neg hg]
          intro a2 y1 y2 y3 y4 y5
          refine rnd a2 _ y1 y2 y3 y4 y5 bD pD _ ?_
          intro a3 z1 z2 z3 z4 z5
          exact ⟨⟨i + 1, hlt, z1, z2, z3, z4, z5, pD, bD⟩, meas a3 z5⟩
      · refine regS_b (by simp [h2]) (fun c a d v w h => hpan c a d v w h) SL hce ?_
        intro a' S' h45
        refine fin a' _ false S' h45 bD pD (by rw [hst]; simp [h2]) _ ?_
        intro a2 y1 y2 y3 y4 y5
        refine rnd a2 _ y1 y2 y3 y4 y5 bD pD _ ?_
        intro a3 z1 z2 z3 z4 z5
        exact ⟨⟨i + 1, hlt, z1, z2, z3, z4, z5, pD, bD⟩, meas a3 z5⟩
  · have he : i = n := by omega
    subst he
    rw [decide_eq_false (by omega : ¬ (i : Int) < (i : Int))]
    refine wp_cond_false (put_eq (by rw [put_sz, put_sz, put_sz, put_sz]; omega)) (wp_exit ?_)
    simp only [Exit.then, Exit.inBlock, if_true]
    refine wp_seq (wp_region_list (wpl_move ?_))
    rw [ek 3 _ _ _ _ _ (by omega), h3]
    refine wpl_assign (wpl_nil (wp_ret ?_))
    rw [put_eq (by rw [ez]; omega)]
    refine bodyPost_ret (v := .int .i64 (chF R i)) ?_ (put_df.trans (put_df.trans (ed ..))) ⟨rfl, hbl⟩
    have e2 : ∀ a : Act, a.tmps.size = 49 → ((a.put (some 48) (.int .i64 (chF R i))).put (some 2) (.int .i64 (chF R i))).tmps[2]?.getD undef = .int .i64 (chF R i) := by
      intro a hz
      have : ((a.put (some 48) (.int .i64 (chF R i))).put (some 2) (.int .i64 (chF R i))).tmps.getD 2 undef = .int .i64 (chF R i) := put_eq (by rw [put_sz]; omega)
      simpa using this
    simp [results, e2 _ (ez ..)]

end Go.Proofs.Ytmfbmnpfgbenmaa
