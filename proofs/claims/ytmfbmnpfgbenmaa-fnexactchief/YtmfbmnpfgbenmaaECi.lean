/-
  The program's Chief.
-/
import Derived.Test.YtmfbmnpfgbenmaaEF
namespace Go.Proofs.Ytmfbmnpfgbenmaa
open Go.RowKit

set_option maxRecDepth 10000 in
set_option maxHeartbeats 4000000 in
theorem iChief (ts : List Value) (R : List RepA) (o : Option Addr) (n c : Nat) (w : World) (hn : n = R.length) (hl : n ≤ 1048576) (hr : ∀ j x, R[j]? = some x → At cReplica w 0 o j x) :
    Calls Try.prog 16 #[vA (.slice o n c :: ts)] w fun e w' => e = .returned (.int .i64 (chF R n)) ∧ Below w.heap.size w w' := by
  refine calls_of_wp Try.func16 rfl ?_
  have hpan := pan_body (P := Try.prog) (fn := Try.f16) (R := fun e w' => e = .returned (.int .i64 (chF R n)) ∧ Below w.heap.size w w')
  have hsz : (⟨#[vA (.slice o n c :: ts)] ++ Array.replicate (Try.f16.ntmps - (#[vA (.slice o n c :: ts)] : Array Value).size) undef, []⟩ : Act).tmps.size = 48 := by
    rw [Array.size_append, Array.size_replicate]
    rfl
  have hdf : (⟨#[vA (.slice o n c :: ts)] ++ Array.replicate (Try.f16.ntmps - (#[vA (.slice o n c :: ts)] : Array Value).size) undef, []⟩ : Act).defers = [] := rfl
  have h00 : (⟨#[vA (.slice o n c :: ts)] ++ Array.replicate (Try.f16.ntmps - (#[vA (.slice o n c :: ts)] : Array Value).size) undef, []⟩ : Act).eval (.tmp 0) = vA (.slice o n c :: ts) := frame_0
  generalize (⟨#[vA (.slice o n c :: ts)] ++ Array.replicate (Try.f16.ntmps - (#[vA (.slice o n c :: ts)] : Array Value).size) undef, []⟩ : Act) = a at *
  refine wp_seq (wp_region_list ?_)
  refine wpl_box (us := .slice o n c :: ts) (by rw [h00]; rfl) ?_
  intro V b0 l0 z0
  refine wpl_assign (wpl_nil (wp_seq (wp_region_list (wpl_assign (wpl_nil (wp_seq (wp_seq (wp_region_list ?_))))))))
  refine wpl_field (p := w.heap.size) (off := 0) ((put_ne (by omega)).trans ((put_ne (by omega)).trans (put_eq (by omega)))) (by kernel_rfl) ?_
  refine wpl_loadS rfl 23 (.tmp 7) rfl (put_eq (by rw [put_sz, put_sz, put_sz]; omega)) (.slice o n c) ⟨by kernel_rfl, by kernel_rfl⟩ (box_head b0) ?_
  refine wpl_len (by kernel_rfl) (put_eq (by rw [put_sz, put_sz, put_sz, put_sz]; omega)) ?_
  refine wpl_move (wpl_nil (wp_block ?_))
  refine wp_loop (fun a W => ∃ i, i ≤ n ∧ a.tmps.size = 48 ∧ a.defers = [] ∧ a.eval (.tmp 1) = .pointer (some ⟨w.heap.size, 0, none⟩) ∧ a.eval (.tmp 3) = .int .i64 (chF R i) ∧ a.eval (.tmp 8) = .slice o n c ∧ a.eval (.tmp 9) = .int .i64 n ∧ a.eval (.tmp 10) = .int .i64 i ∧ Box W w.heap.size (.slice o n c :: ts) ∧ Below w.heap.size w W) (fun a _ => n - (match a.eval (.tmp 10) with | .int _ z => z.toNat | _ => 0))
    ⟨0, Nat.zero_le _, put_sz.trans (put_sz.trans (put_sz.trans (put_sz.trans (put_sz.trans (put_sz.trans (put_sz.trans hsz)))))), put_df.trans (put_df.trans (put_df.trans (put_df.trans (put_df.trans (put_df.trans (put_df.trans hdf)))))),
      (put_ne (by omega)).trans ((put_ne (by omega)).trans ((put_ne (by omega)).trans ((put_ne (by omega)).trans ((put_ne (by omega)).trans ((put_ne (by omega)).trans ((put_eq (by omega)))))))), (put_ne (by omega)).trans ((put_ne (by omega)).trans ((put_ne (by omega)).trans ((put_ne (by omega)).trans ((put_eq (by rw [put_sz, put_sz]; omega)))))), (put_ne (by omega)).trans ((put_ne (by omega)).trans ((put_eq (by rw [put_sz, put_sz, put_sz, put_sz]; omega)))), (put_ne (by omega)).trans ((put_eq (by rw [put_sz, put_sz, put_sz, put_sz, put_sz]; omega))), put_eq (by rw [put_sz, put_sz, put_sz, put_sz, put_sz, put_sz]; omega), b0, l0⟩ ?_
  clear hsz hdf h00 b0 l0 z0
  rintro a W ⟨i, hin, hz, hd, h1, h3, h8, h9, h10, hb, hbl⟩
  refine wp_seq (wp_region_list ?_)
  refine wpl_bin (u := .int .i64 i) (v := .int .i64 n) h10 h9 (run_lss W) (wpl_nil (wp_seq ?_))
  by_cases hlt : i < n
  · rw [decide_eq_true (by omega : (i : Int) < (n : Int))]
    refine wp_cond_true (put_eq (by omega)) (wp_skip (wp_seq (wp_block ?_)))
    have gz := (put_sz (a := a) (d := some 11) (v := .bool true)).trans hz
    have gd := (put_df (a := a) (d := some 11) (v := .bool true)).trans hd
    have gk := fun t (ht : t < 11) => put_ne (a := a) (t := 11) (u := t) (v := .bool true) (by omega)
    generalize a.put (some 11) (.bool true) = A at *
    have g1 := (gk 1 (by omega)).trans h1
    have g3 := (gk 3 (by omega)).trans h3
    have g8 := (gk 8 (by omega)).trans h8
    have g9 := (gk 9 (by omega)).trans h9
    have g10 := (gk 10 (by omega)).trans h10
    clear gk
    obtain ⟨r, hri⟩ : ∃ r, R[i]? = some r := ⟨_, List.getElem?_eq_getElem (by omega)⟩
    obtain ⟨p, q, us, rfl, _, hp, hseg, hrep⟩ := hr i r hri
    have hul : us.length = 43 := (cReplica.len hrep).trans (by kernel_rfl)
    have hk43 : cReplica.k = 43 := by kernel_rfl
    rw [hk43] at hseg
    refine wp_seq (wp_region_list ?_)
    refine wpl_move ?_
    rw [g10]
    refine wpl_index (e := 76) (k := 43) (by kernel_rfl) (by kernel_rfl) ((put_ne (by omega)).trans g8) ((put_ne (by omega)).trans g10) hlt ?_
    refine wpl_load rfl 76 (.tmp 13) rfl (put_eq (by rw [put_sz]; omega)) us (n := 43) ⟨by kernel_rfl, by kernel_rfl⟩ hul (hseg.frm (Fr.of hbl) (Nat.zero_le _) hp) ?_
    refine wpl_alloc (zs := [.int .i64 0, .int .i64 0, .int .i64 0, .int .i64 0, .int .i64 0, .slice none 0 0, .slice none 0 0, .slice none 0 0, .slice none 0 0, .int .i64 0, .int .i64 0, .int .i64 0, .slice none 0 0, .int .i64 0, .int .i64 0, .int .i64 0, .int .i64 0, .int .i64 0, .int .i64 0, .int .i64 0, .int .i64 0, .int .i64 0, .int .i64 0, .int .i64 0, .int .i64 0, .int .i64 0, .int .i64 0, .int .i64 0, .int .i64 0, .int .i64 0, .int .i64 0, .slice none 0 0, .slice none 0 0, .slice none 0 0, .int .i64 0, .int .i64 0, .slice none 0 0, .int .i64 0, .int .i64 0, .int .i64 0, .slice none 0 0, .int .i64 0, .bool false]) (z := .agg #[.int .i64 0, .int .i64 0, .int .i64 0, .int .i64 0, .int .i64 0, .slice none 0 0, .slice none 0 0, .slice none 0 0, .slice none 0 0, .int .i64 0, .int .i64 0, .int .i64 0, .slice none 0 0, .int .i64 0, .int .i64 0, .int .i64 0, .int .i64 0, .int .i64 0, .int .i64 0, .int .i64 0, .int .i64 0, .int .i64 0, .int .i64 0, .int .i64 0, .int .i64 0, .int .i64 0, .int .i64 0, .int .i64 0, .int .i64 0, .int .i64 0, .int .i64 0, .slice none 0 0, .slice none 0 0, .slice none 0 0, .int .i64 0, .int .i64 0, .slice none 0 0, .int .i64 0, .int .i64 0, .int .i64 0, .slice none 0 0, .int .i64 0, .bool false]) (by kernel_rfl) rfl ?_
    intro V bV lV zV
    refine wpl_assign ?_
    rw [put_ne (by omega), put_ne (by omega), put_ne (by omega), put_eq (by omega)]
    refine wpl_store rfl 76 (.tmp 5) (.tmp 14) rfl (p := W.heap.size) (off := 0) ((put_ne (by omega)).trans (put_eq (by rw [put_sz, put_sz, put_sz]; omega))) ((put_ne (by omega)).trans ((put_ne (by omega)).trans (put_eq (by rw [put_sz, put_sz]; omega)))) us [] [.int .i64 0, .int .i64 0, .int .i64 0, .int .i64 0, .int .i64 0, .slice none 0 0, .slice none 0 0, .slice none 0 0, .slice none 0 0, .int .i64 0, .int .i64 0, .int .i64 0, .slice none 0 0, .int .i64 0, .int .i64 0, .int .i64 0, .int .i64 0, .int .i64 0, .int .i64 0, .int .i64 0, .int .i64 0, .int .i64 0, .int .i64 0, .int .i64 0, .int .i64 0, .int .i64 0, .int .i64 0, .int .i64 0, .int .i64 0, .int .i64 0, .int .i64 0, .slice none 0 0, .slice none 0 0, .slice none 0 0, .int .i64 0, .int .i64 0, .slice none 0 0, .int .i64 0, .int .i64 0, .int .i64 0, .slice none 0 0, .int .i64 0, .bool false] [] (n := 43) rfl (cReplica.one hrep) (by kernel_rfl) hul (by rw [List.nil_append, List.append_nil]; exact bV) rfl (by kernel_rfl) ?_
    intro U bU gU zU
    rw [List.nil_append, List.append_nil] at bU
    have hbs := hb.lt
    have bP : Box U w.heap.size (.slice (some ⟨p, q, none⟩) n c :: ts) := (hb.later lV).other gU (by omega)
    have bB : Below w.heap.size w U := by
      have hv := hbl.trans (lV.mono hbl.size)
      exact hv.grown gU hv.size (fun k hk => by have := Option.some.inj hk; omega)
    have hce := cec_of hrep bU bP
    have SL : SlI (((((((A.put (some 12) (.int .i64 i)).put (some 13) (.pointer (some ⟨p, q + i * 43, none⟩))).put (some 14) (.agg us.toArray)).put (some 5) (.pointer (some ⟨W.heap.size, 0, none⟩))).put (some 4) (.int .i64 i))).put none undef) w.heap.size (chF R i) i W.heap.size n (.slice (some ⟨p, q, none⟩) n c) :=
      ⟨put_sz.trans (put_sz.trans (put_sz.trans (put_sz.trans (put_sz.trans (put_sz.trans gz))))), put_df.trans (put_df.trans (put_df.trans (put_df.trans (put_df.trans (put_df.trans gd))))),
        ev0.trans ((put_ne (by omega)).trans ((put_ne (by omega)).trans ((put_ne (by omega)).trans ((put_ne (by omega)).trans ((put_ne (by omega)).trans (g1)))))), ev0.trans ((put_ne (by omega)).trans ((put_ne (by omega)).trans ((put_ne (by omega)).trans ((put_ne (by omega)).trans ((put_ne (by omega)).trans (g3)))))), ev0.trans (put_eq (by rw [put_sz, put_sz, put_sz, put_sz]; omega)), ev0.trans ((put_ne (by omega)).trans (put_eq (by rw [put_sz, put_sz, put_sz]; omega))), ev0.trans ((put_ne (by omega)).trans ((put_ne (by omega)).trans ((put_ne (by omega)).trans ((put_ne (by omega)).trans ((put_ne (by omega)).trans (g8)))))), ev0.trans ((put_ne (by omega)).trans ((put_ne (by omega)).trans ((put_ne (by omega)).trans ((put_ne (by omega)).trans ((put_ne (by omega)).trans (g9)))))), ev0.trans ((put_ne (by omega)).trans ((put_ne (by omega)).trans ((put_ne (by omega)).trans ((put_ne (by omega)).trans ((put_ne (by omega)).trans (g10))))))⟩
    refine wpl_nil (wp_seq ?_)
    have hst := chF_step hri
    have hle := chF_le R i
    have bD : Below w.heap.size w U.drew := bB.drew
    have pD : Box U.drew w.heap.size (.slice (some ⟨p, q, none⟩) n c :: ts) := bP.later (Below.refl _ U).drew
    -- behind the tests
    have fin : ∀ (a' : Act) (V : World) (t : Bool), SlI a' w.heap.size (chF R i) i W.heap.size n (.slice (some ⟨p, q, none⟩) n c) → a'.eval (.tmp 43) = .bool t → chF R (i + 1) = (if t = true then i + 1 else chF R i) →
        ∀ Q : Exit → Act → World → Prop, (∀ a', a'.tmps.size = 48 → a'.defers = [] → a'.eval (.tmp 1) = .pointer (some ⟨w.heap.size, 0, none⟩) → a'.eval (.tmp 3) = .int .i64 (chF R (i + 1)) → a'.eval (.tmp 8) = .slice (some ⟨p, q, none⟩) n c → a'.eval (.tmp 9) = .int .i64 n → a'.eval (.tmp 10) = .int .i64 i → Q .normal a' V) →
        ∀ {t0 t1 t2 : TypeId} {s0 s1 s2 : String} {f0 f1 f2 : Array Edge} {tk tm : TypeId} {id : Nat}, Code.wp Try.prog (Code.cond (.tmp 43) (Code.region id #[⟨some 44, .move (.tmp 4), t0, s0, f0, none⟩, ⟨some 45, .binOp .add tk (.tmp 44) (.const (.int .i64 1)) tm, t1, s1, f1, none⟩, ⟨some 3, .assign (.tmp 45), t2, s2, f2, none⟩] false) .skip) Q a' V := by
      intro a' V t S h45 hch Q k t0 t1 t2 s0 s1 s2 f0 f1 f2 tk tm id
      have sz := S.sz
      cases t
      · rw [if_neg (by decide)] at hch
        exact wp_cond_false h45 (wp_skip (k a' S.sz S.df S.e1 (by rw [hch]; exact S.e3) S.e8 S.e9 S.e10))
      · rw [if_pos rfl] at hch
        refine wp_cond_true h45 (wp_region_list ?_)
        refine wpl_move ?_
        rw [S.e4]
        refine wpl_bin (u := .int .i64 i) (v := .int .i64 1) (put_eq (by omega)) rfl (run_inc V (by omega) (by omega)) ?_
        refine wpl_assign (wpl_nil ?_)
        rw [put_eq (by rw [put_sz]; omega)]
        exact k _ (put_sz.trans (put_sz.trans (put_sz.trans sz))) (put_df.trans (put_df.trans (put_df.trans S.df))) ((put_ne (by omega)).trans ((put_ne (by omega)).trans ((put_ne (by omega)).trans (S.e1)))) (by rw [hch]; exact (put_eq (by rw [put_sz, put_sz]; omega)).trans (by congr 1)) ((put_ne (by omega)).trans ((put_ne (by omega)).trans ((put_ne (by omega)).trans (S.e8)))) ((put_ne (by omega)).trans ((put_ne (by omega)).trans ((put_ne (by omega)).trans (S.e9)))) ((put_ne (by omega)).trans ((put_ne (by omega)).trans ((put_ne (by omega)).trans (S.e10))))
    -- the round's end
    have rnd : ∀ (a' : Act), a'.tmps.size = 48 → a'.defers = [] → a'.eval (.tmp 1) = .pointer (some ⟨w.heap.size, 0, none⟩) → a'.eval (.tmp 3) = .int .i64 (chF R (i + 1)) → a'.eval (.tmp 8) = .slice (some ⟨p, q, none⟩) n c → a'.eval (.tmp 9) = .int .i64 n → a'.eval (.tmp 10) = .int .i64 i →
        ∀ Q : Exit → Act → World → Prop, (∀ a', (∃ j, j ≤ n ∧ a'.tmps.size = 48 ∧ a'.defers = [] ∧ a'.eval (.tmp 1) = .pointer (some ⟨w.heap.size, 0, none⟩) ∧ a'.eval (.tmp 3) = .int .i64 (chF R j) ∧ a'.eval (.tmp 8) = .slice (some ⟨p, q, none⟩) n c ∧ a'.eval (.tmp 9) = .int .i64 n ∧ a'.eval (.tmp 10) = .int .i64 j ∧ Box U.drew w.heap.size (.slice (some ⟨p, q, none⟩) n c :: ts) ∧ Below w.heap.size w U.drew) → a'.eval (.tmp 10) = .int .i64 (i + 1 : Nat) → Q .normal a' U.drew) →
        ∀ {t0 t1 : TypeId} {s0 s1 : String} {f0 f1 : Array Edge} {tk tm : TypeId} {id : Nat}, Code.wp Try.prog (Code.region id #[⟨some 46, .binOp .add tk (.tmp 10) (.const (.int .i64 1)) tm, t0, s0, f0, none⟩, ⟨some 10, .move (.tmp 46), t1, s1, f1, none⟩] false) Q a' U.drew := by
      intro a' sz df e1 e3 e8 e9 e10 Q k t0 t1 s0 s1 f0 f1 tk tm id
      refine wp_region_list ?_
      refine wpl_bin (u := .int .i64 i) (v := .int .i64 1) e10 rfl (run_inc _ (by omega) (by omega)) ?_
      refine wpl_move (wpl_nil ?_)
      rw [put_eq (by omega)]
      have e : ((a'.put (some 46) (.int .i64 ((i : Int) + 1))).put (some 10) (.int .i64 ((i : Int) + 1))).eval (.tmp 10) = .int .i64 (i + 1 : Nat) := (put_eq (by rw [put_sz]; omega)).trans (by congr 1)
      exact k _ ⟨i + 1, hlt, put_sz.trans (put_sz.trans sz), put_df.trans (put_df.trans df), (put_ne (by omega)).trans ((put_ne (by omega)).trans (e1)), (put_ne (by omega)).trans ((put_ne (by omega)).trans (e3)), (put_ne (by omega)).trans ((put_ne (by omega)).trans (e8)), (put_ne (by omega)).trans ((put_ne (by omega)).trans (e9)), e, pD, bD⟩ e
    have meas : ∀ a' : Act, a'.eval (.tmp 10) = .int .i64 (i + 1 : Nat) → n - (match a'.eval (.tmp 10) with | .int _ z => z.toNat | _ => 0) < n - (match a.eval (.tmp 10) with | .int _ z => z.toNat | _ => 0) := by
      intro a' e
      rw [e, h10]
      show n - ((i + 1 : Nat) : Int).toNat < n - (i : Int).toNat
      omega
    generalize hup : rUp r = up at *
    generalize hro : rRole r = ro at *
    cases up
    · refine regI5_a SL hce ?_
      intro a1 S1 h6
      refine wp_seq ?_
      refine regI6_a (fun c a d v w h => hpan c a d v w h) S1 h6 ?_
      intro a' S' h45
      refine fin a' _ false S' h45 (by rw [hst]; simp) _ ?_
      intro a2 y1 y2 y3 y4 y5 y6 y7
      refine rnd a2 y1 y2 y3 y4 y5 y6 y7 _ ?_
      intro a3 z1 z2
      exact ⟨z1, meas a3 z2⟩
    · by_cases h2 : ro = 2
      · subst h2
        refine regI5_c SL hce ?_
        intro a1 S1 h6
        refine wp_seq ?_
        rcases Nat.eq_zero_or_pos (chF R i) with h0 | h0
        · rw [h0] at S1
          refine regI6_b (fun c a d v w h => hpan c a d v w h) S1 h6 ?_
          intro a' S' h45
          have S2 : SlI a' w.heap.size (chF R i) i W.heap.size n (.slice (some ⟨p, q, none⟩) n c) := by rw [h0]; exact S'
          refine fin a' _ true S2 h45 (by rw [hst, h0]; simp) _ ?_
          intro a2 y1 y2 y3 y4 y5 y6 y7
          refine rnd a2 y1 y2 y3 y4 y5 y6 y7 _ ?_
          intro a3 z1 z2
          exact ⟨z1, meas a3 z2⟩
        · obtain ⟨m, hm⟩ : ∃ m, chF R i = m + 1 := ⟨chF R i - 1, by omega⟩
          obtain ⟨z, hz'⟩ : ∃ z, R[m]? = some z := ⟨_, List.getElem?_eq_getElem (by omega)⟩
          rw [hm] at S1
          refine regI6_c (m := m) (tm := rTerm z) (by omega) hl (fun c a d v w h => hpan c a d v w h) S1 h6 hce (term_at (hr m z hz') bB) ?_
          intro a' S' h45
          have S2 : SlI a' w.heap.size (chF R i) i W.heap.size n (.slice (some ⟨p, q, none⟩) n c) := by rw [hm]; exact S'
          refine fin a' _ (decide (rTerm r > rTerm z)) S2 h45 ?_ _ ?_
          · rw [hst, hm]
            simp only [Nat.add_sub_cancel, hz', Option.some.injEq, exists_eq_left', decide_eq_true_eq]
            by_cases hg : rTerm r > rTerm z
            · rw [if_pos ⟨trivial, trivial, Or.inr hg⟩, if_pos hg]
            · rw [if_neg (fun hq => hq.2.2.elim (fun h => by omega) hg), if_neg hg]
          intro a2 y1 y2 y3 y4 y5 y6 y7
          refine rnd a2 y1 y2 y3 y4 y5 y6 y7 _ ?_
          intro a3 z1 z2
          exact ⟨z1, meas a3 z2⟩
      · refine regI5_b (by simp [h2]) SL hce ?_
        intro a1 S1 h6
        refine wp_seq ?_
        refine regI6_a (fun c a d v w h => hpan c a d v w h) S1 h6 ?_
        intro a' S' h45
        refine fin a' _ false S' h45 (by rw [hst]; simp [h2]) _ ?_
        intro a2 y1 y2 y3 y4 y5 y6 y7
        refine rnd a2 y1 y2 y3 y4 y5 y6 y7 _ ?_
        intro a3 z1 z2
        exact ⟨z1, meas a3 z2⟩
  · have he : i = n := by omega
    subst he
    rw [decide_eq_false (by omega : ¬ (i : Int) < (i : Int))]
    refine wp_cond_false (put_eq (by omega)) (wp_exit ?_)
    simp only [Exit.then, Exit.inBlock, if_true]
    refine wp_seq (wp_region_list (wpl_move ?_))
    rw [put_ne (by omega), h3]
    refine wpl_assign (wpl_nil (wp_ret ?_))
    rw [put_eq (by rw [put_sz]; omega)]
    refine bodyPost_ret (v := .int .i64 (chF R i)) ?_ (put_df.trans (put_df.trans (put_df.trans hd))) ⟨rfl, hbl⟩
    have e2 : (((a.put (some 11) (.bool false)).put (some 47) (.int .i64 (chF R i))).put (some 2) (.int .i64 (chF R i))).tmps[2]?.getD undef = .int .i64 (chF R i) := by
      have : (((a.put (some 11) (.bool false)).put (some 47) (.int .i64 (chF R i))).put (some 2) (.int .i64 (chF R i))).tmps.getD 2 undef = .int .i64 (chF R i) := put_eq (by rw [put_sz, put_sz]; omega)
      simpa using this
    simp [results, e2]

end Go.Proofs.Ytmfbmnpfgbenmaa
