/-
  The laws' copy of a Keep: its rows lie apart from each other.
-/
import Derived.Test.YtlbjmmmadoehbaaZR28
namespace Go.Proofs.Ytlbjmmmadoehbaa
open Go.ChangeShapes Go.WideShapes Go.ChangeAt Go.RowKit Go.Joins Go.Deep

set_option maxRecDepth 10000 in
set_option maxHeartbeats 4000000 in
theorem toEntryS_dst (a : Option Addr) (n cap : Nat) (es : List En) (w : World) (hn : n = es.length) (hB : RowG KEn w a es) (hD : ∀ e ∈ es, DatR w e) (hl : n ≤ 1048576) (hz : ∀ e ∈ es, e.n ≤ 1048576) :
    Calls Try.prog 21 #[.slice a n cap] w fun e w' => ∃ g fs, e = .returned (.slice (some ⟨g, 0, none⟩) n n) ∧ n = fs.length ∧ fs.map En.key = es.map En.key ∧ OwnG KEn 67 w' w.heap.size (.slice (some ⟨g, 0, none⟩) n n) fs ∧ (∀ e ∈ fs, EnO w' w.heap.size g e ∧ EnF e) ∧ fs.Pairwise (fun e f => e.a ≠ f.a) ∧ Below w.heap.size w w' := by
  obtain ⟨i0, hi, hz0, hz1, hz2⟩ := info_parts Try.tyEn.2.1
  have HB := hidP hB
  have HD := hidP (And.intro hD hz)
  have HN := hidP hn
  clear hB hn hD hz
  go_enter Try.func21, Try.ntmps21
  go_wp2_with (refine wpList_make_full _ rfl (.tmp 6) (.tmp 6) 31 rfl w.heap.size 67 i0 _ 3 Try.tyEn.1 hi hz0 hz1 .i64 .i64 n n n rfl rfl rfl rfl (by rw [hz2]; omega) (by unfold maxLen; omega) (Nat.le_refl _) ?_; intro w1 hown hgrow)
  have HO : Hid (OwnG KEn 67 w1 w.heap.size (.slice (some ⟨w.heap.size, 0, none⟩) n n) ([] ++ List.replicate (n - 0) En.zero)) := by
    have hm := made_gen KEn En.zero (by show 0 < 3; omega) (.agg #[.int .i64 0, .int .i64 0, .slice none 0 0]) rfl n
    rw [show n * 3 = n * KEn.k from rfl, hm] at hown
    refine hidP ?_
    unfold OwnG
    rw [Nat.sub_zero, List.nil_append, List.length_replicate]; exact hown
  have HW : Hid (Below w.heap.size w w1) := (Below.refl _ w).grown hgrow (Nat.le_refl _) (fun k hk => by cases hk)
  clear hown hgrow
  go_loopw [4] (fun t4 wr => ∃ fs : List En, fs.length ≤ n ∧ t4 = .int .i64 fs.length ∧ fs.map En.key = (es.take fs.length).map En.key ∧ OwnG KEn 67 wr w.heap.size (.slice (some ⟨w.heap.size, 0, none⟩) n n) (fs ++ List.replicate (n - fs.length) En.zero) ∧ (∀ e ∈ fs, EnO wr w.heap.size w.heap.size e ∧ EnF e) ∧ fs.Pairwise (fun e f => e.a ≠ f.a) ∧ Below w.heap.size w wr) (fun t4 _ => n - (intOf t4).toNat)
  case atStart => exact ⟨[], Nat.zero_le _, rfl, rfl, HO.out, (fun e he => by cases he), List.Pairwise.nil, HW.out⟩
  case round =>
    obtain ⟨fs, hk, rfl, hke, hown, hfs, hpw, hbel⟩ := hrel
    have HPW := hidP hpw
    clear hpw
    have HK := hidP hke
    generalize hkk : fs.length = k at *
    have HKK := hidP hkk
    clear hke hkk
    by_cases hlt : k < n
    · obtain ⟨p, o, q, rfl, hp, hq, c0, c1, c2⟩ := rowEn HB.out k (by rw [← HN.out]; exact hlt)
      have d0 := (hbel.cell hp).trans c0
      have d1 := (hbel.cell hp).trans c1
      have d2 := (hbel.cell hp).trans c2
      have hqm := List.mem_of_getElem? hq
      have hdq := (HD.out.1 q hqm).later hbel
      have HT := hidP (toEntry_any q.a q.n q.c q.T q.K q.zs wr hdq.1 hdq.2.2 (HD.out.2 q hqm))
      have HOc := hidP (And.intro hdq.1 hdq.2.1)
      have HOw := hidP (And.intro hown hfs)
      have HBel := hidP hbel
      have HQ := hidP hq
      clear hown hbel c0 c1 c2 hq HO HW hfs hdq hqm
      go_wp2_with fail
      refine HT.out.mono ?_
      rintro e w2 ⟨g, rfl, og, hb2⟩
      have ho2 := HOw.out.1.later hb2
      have hlt2 := HOw.out.1.lt w.heap.size rfl
      have hge : wr.heap.size ≤ g := (og.lt g rfl).1
      have HP2 : Hid (List.Pairwise (fun e f : En => e.a ≠ f.a) (fs ++ [⟨q.T, q.K, some ⟨g, 0, none⟩, q.n, q.n, q.zs⟩])) := by
        refine hidP (List.pairwise_append.2 ⟨HPW.out, List.pairwise_singleton _ _, fun e he f hf => ?_⟩)
        rw [List.mem_singleton] at hf
        subst hf
        obtain ⟨g', hg'⟩ := (HOw.out.2 e he).2.1
        intro h9
        have h8 := ((HOw.out.2 e he).1.own.lt g' (by rw [hg']; rfl)).2
        rw [hg'] at h9
        have : g' = g := by simp at h9
        omega
      have hQe : EnO w2 w.heap.size w.heap.size ⟨q.T, q.K, some ⟨g, 0, none⟩, q.n, q.n, q.zs⟩ := ⟨HOc.out.1, HOc.out.2, og.mono HBel.out.size, fun k hk => by
        have : g = k := Option.some.inj hk
        omega⟩
      have hE2 : ∀ e ∈ fs ++ [⟨q.T, q.K, some ⟨g, 0, none⟩, q.n, q.n, q.zs⟩], EnO w2 w.heap.size w.heap.size e ∧ EnF e := fun e he => by
        rcases List.mem_append.1 he with he | he
        · exact ⟨(HOw.out.2 e he).1.later hb2, (HOw.out.2 e he).2⟩
        · rw [List.mem_singleton.1 he]; exact ⟨hQe, ⟨g, rfl⟩, rfl⟩
      have hlen : n = (fs ++ List.replicate (n - k) En.zero).length := by rw [List.length_append, List.length_replicate, HKK.out]; omega
      obtain ⟨f0, f1, f2⟩ := frzEn ho2 k
      have hput' := putEn ho2 hlen k hlt ⟨q.T, q.K, some ⟨g, 0, none⟩, q.n, q.n, q.zs⟩
      rw [show n - k = (n - (k + 1)) + 1 by omega, ← HKK.out, set_lastE, HKK.out] at hput'
      have HP := hidP (And.intro hput' hE2)
      obtain ⟨q', hp', _, e0, e1, e2⟩ := rowEn0 ho2 k (by rw [← hlen]; exact hlt)
      have HBel2 := hidP (HBel.out.trans (hb2.mono HBel.out.size))
      clear hput' hE2 hQe ho2 hb2 HBel HOw d0 d1 d2 hlen og hge hlt2
      go_wp2_with fail
      go_roundw
      case rel =>
        refine ⟨fs ++ [⟨q.T, q.K, some ⟨g, 0, none⟩, q.n, q.n, q.zs⟩], by rw [List.length_append, HKK.out]; show k + 1 ≤ n; omega, by rw [List.length_append, HKK.out]; go_num, ?_, ?_, ?_, HP2.out, ((HBel2.out.setCell (Nat.le_refl _) _).setCell (Nat.le_refl _) _).setCell (Nat.le_refl _) _⟩
        · rw [List.length_append, HKK.out, List.map_append, HK.out]
          show _ = (es.take (k + 1)).map En.key
          rw [List.take_add_one, HQ.out, List.map_append]
          rfl
        · rw [List.length_append, HKK.out]; exact HP.out.1
        · exact fun e he => ⟨(((HP.out.2 e he).1.set _ _).set _ _).set _ _, (HP.out.2 e he).2⟩
      case measure => simp [intOf]; omega
    · have hkn : k = n := by omega
      subst hkn
      have HO2 : Hid (OwnG KEn 67 wr w.heap.size (.slice (some ⟨w.heap.size, 0, none⟩) k k) fs) := by
        rw [Nat.sub_self, List.replicate_zero, List.append_nil] at hown
        exact hidP hown
      have HBel : Hid (Below w.heap.size w wr) := hbel
      have HF := hidP hfs
      clear hown hbel HO HW hfs
      go_wp2
      go_ret
      refine ⟨_, fs, rfl, HKK.out.symm, ?_, HO2.out, HF.out, HPW.out, HBel.out⟩
      have := HK.out
      rw [HN.out, List.take_length] at this
      exact this

/-- Its rows lie apart. -/
structure KvD (k : Kv) : Prop where
  gh : k.ga ≠ k.ha
  es : ∀ e ∈ k.es, e.a ≠ k.sa
  pw : k.es.Pairwise (fun e f => e.a ≠ f.a)

set_option maxRecDepth 10000 in
set_option maxHeartbeats 8000000 in
theorem toKeep_dst (k : Kv) (ss : List Int) (w : World) (hr : KvF w k ss) (hs : KvS k) :
    Calls Try.prog 6 #[k.v] w fun e w' => ∃ q : Kv, e = .returned q.v ∧ KvE k q ∧ KvO w' w.heap.size q ss ∧ KvD q ∧ Below w.heap.size w w' := by
  have HE := hidP (fun W (hb : Below w.heap.size w W) => toEntryS_dst k.la k.ln k.lc k.es W hr.r.hl (hr.r.rl.later hb) (fun e he => (hr.r.dt e he).later hb) hs.hl hs.hz)
  have HD := hidP (fun W (hb : Below w.heap.size w W) => toByteG k.sa k.sn k.sc ss W hr.hs (hr.rs.later hb) hs.hs)
  have HG := hidP (fun W (hb : Below w.heap.size w W) => toGroup_any k.ga k.gn k.gc k.ha k.hn k.hc k.ps k.bs W hr.r.hg hr.r.hh (hr.r.rg.later hb) (hr.r.rh.later hb) hs.hg hs.hh)
  have HL := hidP (And.intro hr.r.hg (And.intro hr.r.hh (And.intro hr.hs hr.os)))
  clear hr hs
  obtain ⟨T, V, B, E, ga, gn, gc, ha, hn, hc, sa, sn, sc, la, ln, lc, ps, bs, es⟩ := k
  simp only at HE HD HG HL
  go_enter Try.func6, Try.ntmps6
  go_wp2_with fail
  refine (HG.out _ ?_).mono ?_
  · repeat (first | with_reducible exact Below.refl _ _ | (with_reducible refine Below.drew ?_) | (with_reducible refine Below.alloc ?_ ?_ _; rotate_left; (focus (first | omega | (simp; omega) | (simp; done)))) | (with_reducible refine Below.setCell ?_ ?_ _; rotate_left; (focus (first | omega | (simp; omega) | (simp; done)))))
  rintro e w1 ⟨x, y, rfl, ox, oy, hxy, hb1⟩
  have hz1 := hb1.size
  try simp at hz1
  have f10 : w.heap.size < w1.heap.size := by omega
  have f11 : w.heap.size + 1 < w1.heap.size := by omega
  have f12 : w.heap.size + 2 < w1.heap.size := by omega
  have OX : Hid (OwnG KI 3 w1 (w.heap.size + 3) (.slice (some ⟨x, 0, none⟩) gn gn) ps ∧ OwnG KI 3 w1 (w.heap.size + 3) (.slice (some ⟨y, 0, none⟩) hn hn) bs) := hidP ⟨ox.mono (by simp), oy.mono (by simp)⟩
  refine olds_k (w.heap.size + 3) hb1 ?_ ?_
  · first | omega | (simp; omega) | (simp; done)
  intro hc1 hf1
  have HXY := hidP hxy
  clear ox oy hxy
  go_wp2_with fail
  refine (HD.out _ ?_).mono ?_
  · repeat (first | with_reducible exact Below.refl _ _ | (with_reducible refine Below.drew ?_) | (with_reducible refine Below.alloc ?_ ?_ _; rotate_left; (focus (first | omega | (simp; omega) | (simp; done)))) | (with_reducible refine Below.setCell ?_ ?_ _; rotate_left; (focus (first | omega | (simp; omega) | (simp; done)))) | (with_reducible refine Below.trans ?_ (hb1.mono ?_); rotate_left; (focus (first | omega | (simp; omega) | (simp; done)))))
  rintro e w2 ⟨d, rfl, od, hb2⟩
  have hz2 := hb2.size
  try simp at hz2
  have f20 : w.heap.size < w2.heap.size := by omega
  have f21 : w.heap.size + 1 < w2.heap.size := by omega
  have f22 : w.heap.size + 2 < w2.heap.size := by omega
  have OD : Hid (OwnG KBy 5 w2 (w.heap.size + 3) (.slice (some ⟨d, 0, none⟩) sn sn) ss) := hidP (od.mono (by simp; omega))
  refine olds_k (w.heap.size + 3) hb2 ?_ ?_
  · first | omega | (simp; omega) | (simp; done)
  intro hc2 hf2
  have HDl := hidP (od.lt d rfl).2
  clear od
  go_wp2_with fail
  refine (HE.out _ ?_).mono ?_
  · repeat (first | with_reducible exact Below.refl _ _ | (with_reducible refine Below.drew ?_) | (with_reducible refine Below.alloc ?_ ?_ _; rotate_left; (focus (first | omega | (simp; omega) | (simp; done)))) | (with_reducible refine Below.setCell ?_ ?_ _; rotate_left; (focus (first | omega | (simp; omega) | (simp; done)))) | (with_reducible refine Below.trans ?_ (hb2.mono ?_); rotate_left; (focus (first | omega | (simp; omega) | (simp; done)))) | (with_reducible refine Below.trans ?_ (hb1.mono ?_); rotate_left; (focus (first | omega | (simp; omega) | (simp; done)))))
  rintro e w3 ⟨g, fs, rfl, hfl, hfk, og, oe, pw, hb3⟩
  have HPW := hidP pw
  have HLo := hidP (fun e he => fun q hq => ((oe e he).1.own.lt q hq).1)
  clear pw
  have hz3 := hb3.size
  try simp at hz3
  have f30 : w.heap.size < w3.heap.size := by omega
  have f31 : w.heap.size + 1 < w3.heap.size := by omega
  have f32 : w.heap.size + 2 < w3.heap.size := by omega
  have OG : Hid (OwnG KEn 67 w3 (w.heap.size + 3) (.slice (some ⟨g, 0, none⟩) ln ln) fs ∧ (∀ e ∈ fs, EnO w3 (w.heap.size + 3) g e ∧ EnF e) ∧ ln = fs.length ∧ fs.map En.key = es.map En.key) := hidP ⟨og.mono (by simp; omega), fun e he => ⟨⟨(oe e he).1.hn, (oe e he).1.ho, (oe e he).1.own.mono (by simp; omega), (oe e he).1.ne⟩, (oe e he).2⟩, hfl, hfk⟩
  refine olds_k (w.heap.size + 3) hb3 ?_ ?_
  · first | omega | (simp; omega) | (simp; done)
  intro hc3 hf3
  clear og oe hfl hfk
  go_wp2_with fail
  refine bodyPost_ret (v := .agg #[.int .i64 T, .int .i64 V, .int .i64 B, .int .i64 E, .slice (some ⟨x, 0, none⟩) gn gn, .slice (some ⟨y, 0, none⟩) hn hn, .slice (some ⟨d, 0, none⟩) sn sn, .slice (some ⟨g, 0, none⟩) ln ln]) (by simp [results, Try.results6, go_sem, hc1, hc2, hc3]) rfl ⟨⟨T, V, B, E, some ⟨x, 0, none⟩, gn, gn, some ⟨y, 0, none⟩, hn, hn, some ⟨d, 0, none⟩, sn, sn, some ⟨g, 0, none⟩, ln, ln, ps, bs, fs⟩, rfl, ⟨rfl, rfl, rfl, rfl, rfl, rfl, rfl, rfl, rfl, rfl, OG.out.2.2.2⟩, ?_, ⟨?_, ?_, HPW.out⟩, ?_⟩
  · have k3 : ∀ V0, Kpt (fun k => w.heap.size + 3 ≤ k) w3 V0 → KvO V0 (w.heap.size + 3) ⟨T, V, B, E, some ⟨x, 0, none⟩, gn, gn, some ⟨y, 0, none⟩, hn, hn, some ⟨d, 0, none⟩, sn, sn, some ⟨g, 0, none⟩, ln, ln, ps, bs, fs⟩ ss := fun V0 hV => by
      have k2 : Kpt (fun k => w.heap.size + 3 ≤ k) w2 w3 := by
        repeat (first | with_reducible exact Kpt.refl _ _ | (with_reducible refine kpt_setN ?_ ?_ _; rotate_left; (focus (first | omega | (simp; omega) | (simp; done)))) | (with_reducible refine kpt_bel ?_ hb3))
      have k1 : Kpt (fun k => w.heap.size + 3 ≤ k) w1 w2 := by
        repeat (first | with_reducible exact Kpt.refl _ _ | (with_reducible refine kpt_setN ?_ ?_ _; rotate_left; (focus (first | omega | (simp; omega) | (simp; done)))) | (with_reducible refine kpt_bel ?_ hb2))
      have i1 : ∀ k, w.heap.size + 3 ≤ k → w.heap.size + 3 ≤ k := fun _ h => h
      exact ⟨HL.out.1, HL.out.2.1, HL.out.2.2.1, OG.out.2.2.1, HL.out.2.2.2, own_kpt OX.out.1 ((k1.trans k2).trans hV) i1, own_kpt OX.out.2 ((k1.trans k2).trans hV) i1, own_kpt OD.out (k2.trans hV) i1, own_kpt OG.out.1 hV i1, fun e he => ⟨⟨(OG.out.2.1 e he).1.hn, (OG.out.2.1 e he).1.ho, ((OG.out.2.1 e he).1.kpt hV i1).own⟩, (OG.out.2.1 e he).2⟩⟩
    refine (k3 _ ?_).mono (by omega)
    repeat (first | with_reducible exact Kpt.refl _ _ | (with_reducible refine kpt_setN ?_ ?_ _; rotate_left; (focus (first | omega | (simp; omega) | (simp; done)))))
  · intro h9
    exact HXY.out (by simpa using h9)
  · intro e he h9
    obtain ⟨g', hg'⟩ := (OG.out.2.1 e he).2.1
    have h8 := HLo.out e he g' (by rw [hg']; rfl)
    have h7 := HDl.out
    simp only [World.size_setCell] at h8
    rw [hg'] at h9
    have : g' = d := by simp at h9
    omega
  · repeat (first | with_reducible exact Below.refl _ _ | (with_reducible refine Below.drew ?_) | (with_reducible refine Below.alloc ?_ ?_ _; rotate_left; (focus (first | omega | (simp; omega) | (simp; done)))) | (with_reducible refine Below.setCell ?_ ?_ _; rotate_left; (focus (first | omega | (simp; omega) | (simp; done)))) | (with_reducible refine Below.trans ?_ (hb3.mono ?_); rotate_left; (focus (first | omega | (simp; omega) | (simp; done)))) | (with_reducible refine Below.trans ?_ (hb2.mono ?_); rotate_left; (focus (first | omega | (simp; omega) | (simp; done)))) | (with_reducible refine Below.trans ?_ (hb1.mono ?_); rotate_left; (focus (first | omega | (simp; omega) | (simp; done)))))

end Go.Proofs.Ytlbjmmmadoehbaa
