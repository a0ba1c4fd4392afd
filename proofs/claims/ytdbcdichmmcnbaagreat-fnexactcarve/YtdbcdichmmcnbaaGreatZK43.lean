/-
  The program's Carve: what it makes of any plan, pool and owner.
-/
import Derived.Test.YtdbcdichmmcnbaaGreatZK39
import Derived.Test.YtdbcdichmmcnbaaGreatZK42
import Derived.Test.YtdbcdichmmcnbaaGreatZK35
import Derived.Test.YtdbcdichmmcnbaaGreatZK20
import Derived.Test.YtdbcdichmmcnbaaGreatZK1
import Derived.Deep.DeepCutAuto
namespace Go.Proofs.YtdbcdichmmcnbaaGreat
open Go.RowKit Go.Maps Go.Deep

set_option maxRecDepth 10000 in
set_option maxHeartbeats 8000000 in
theorem iCarve_any (pt : Pf) (ow : ByteArray) (how : ow.size ≤ 9223372036854775807) (ap : Option Addr) (np cp : Nat) (ab : Option Addr) (nb cb : Nat) (ps : List Pl) (bs : List Bk) (bits : Int) (zs : List Sp) (w : World) (hnp : np = ps.length) (hnb : nb = bs.length) (hP : RowG KPl w ap ps) (hK : RowG KBk w ab bs) (hl : np ≤ 1048576) (hl' : nb ≤ 1048576) (hst : ∀ q ∈ bs, q.t.size ≤ 9223372036854775807) (hbt : ∀ (j : Nat) (q : Pl), plc pt ps = (j : Int) → ps[j]? = some q → bits = q.n)
    (hFF : pt.pk = true → bs.length ≤ 60 → cvFF pt (fil bs pt) bits zs) (hFz : ∀ z r, zs = z :: r → (⟨z.s, z.H, z.L, bits⟩ : Pf).pk = true ∧ winP ⟨z.s, z.H, z.L, bits⟩ pt = true ∧ ∀ u ∈ fil bs pt, ovP u ⟨z.s, z.H, z.L, bits⟩ = false) :
    Calls Tryz.prog 8 #[.agg #[.slice ap np cp, .slice ab nb cb], .agg #[.bool pt.s, .int .i64 pt.H.toInt, .int .i64 pt.L.toInt, .int .i64 pt.b], .string ow] w fun e w' => ∃ a c b n d, e = .returned (.tuple #[.agg #[.slice a np c, .slice b n d], .agg #[.bool (cvO ps bs pt ow bits zs).f.s, .int .i64 (cvO ps bs pt ow bits zs).f.H.toInt, .int .i64 (cvO ps bs pt ow bits zs).f.L.toInt, .int .i64 (cvO ps bs pt ow bits zs).f.b], .int .i64 (cvO ps bs pt ow bits zs).c]) ∧ n = (cvO ps bs pt ow bits zs).b.length ∧ OwnG KPl 46 w' w.heap.size (.slice a np c) ps ∧ OwnG KBk 38 w' w.heap.size (.slice b n d) (cvO ps bs pt ow bits zs).b ∧ (∀ k, (Value.slice a np c).ownBlock = some k → (Value.slice b n d).ownBlock ≠ some k) ∧ Below w.heap.size w w' := by
  have HOw := hidP (fun W h' => ownPlan_any ap np cp ab nb cb ps bs W hnp hnb (hP.later h') (hK.later h') hl hl')
  have HPO := hidP (fun W a c b d e1 e2 => iPlanOk_any a np c b nb d ps bs W hnp hnb e1 e2 (by omega) (by omega) hst)
  have HPk := hidP (iPrefixOk_any pt.s pt.H pt.L pt.b)
  change Hid (∀ w, Calls Tryz.prog 33 _ w fun e w' => e = .returned (.bool pt.pk) ∧ Below w.heap.size w w') at HPk
  have HOO := hidP (fun W => iOwnerOk_any ow W how)
  have HPl := hidP (fun W a c b d e1 => placeOfPool_any pt a np c b nb d ps W hnp e1 (by omega))
  obtain ⟨O, hO⟩ : ∃ O, O = cvO ps bs pt ow bits zs := ⟨_, rfl⟩
  rw [← hO]
  have HO := hidP hO
  have HN := hidP (And.intro hnp hnb)
  have HFF := hidP hFF
  have HFz := hidP hFz
  have HBt := hidP hbt
  obtain ⟨r1, hr1⟩ : ∃ r, planB ps bs = r := ⟨_, rfl⟩
  obtain ⟨r2, hr2⟩ : ∃ r, pt.pk = r := ⟨_, rfl⟩
  obtain ⟨r3, hr3⟩ : ∃ r, ownB ow = r := ⟨_, rfl⟩
  rw [hr1] at HPO
  rw [hr2] at HPk
  rw [hr3] at HOO
  have H1 := hidP hr1
  have H2 := hidP hr2
  have H3 := hidP hr3
  clear hP hK hnp hnb hst how hO hFF hFz hbt hr1 hr2 hr3
  go_enter Tryz.func8, Tryz.ntmps8
  go_wp2_with fail
  obtain ⟨pb0_W1, pb1_W1⟩ := box2C w 27 (.slice ap np cp) (.slice ab nb cb)
  have pbF_W1 : ∀ o, (w.alloc (.cells #[.slice ap np cp, .slice ab nb cb] 27)).frozen? ⟨w.heap.size, o, none⟩ = false := fun o => by simp [go_sem]
  have pbL_W1 : w.heap.size < (w.alloc (.cells #[.slice ap np cp, .slice ab nb cb] 27)).heap.size := by simp
  have ab_W1 := alloc_below w (.cells #[.slice ap np cp, .slice ab nb cb] 27)
  have as_W1 : Hid ((w.alloc (.cells #[.slice ap np cp, .slice ab nb cb] 27)).heap.size = w.heap.size + 1) := hidP (by simp)
  generalize w.alloc (.cells #[.slice ap np cp, .slice ab nb cb] 27) = W1 at *
  have acc_W1 := hidP (ab_W1)
  have sz_W1 : Hid (w.heap.size ≤ W1.heap.size) := hidP ab_W1.size
  clear ab_W1 
  obtain ⟨at0_W2, at1_W2, at2_W2, at3_W2⟩ := box4C W1 31 (.bool pt.s) (.int .i64 pt.H.toInt) (.int .i64 pt.L.toInt) (.int .i64 pt.b)
  have atF_W2 : ∀ o, (W1.alloc (.cells #[.bool pt.s, .int .i64 pt.H.toInt, .int .i64 pt.L.toInt, .int .i64 pt.b] 31)).frozen? ⟨W1.heap.size, o, none⟩ = false := fun o => by simp [go_sem]
  have atL_W2 : W1.heap.size < (W1.alloc (.cells #[.bool pt.s, .int .i64 pt.H.toInt, .int .i64 pt.L.toInt, .int .i64 pt.b] 31)).heap.size := by simp
  have ab_W2 := alloc_below W1 (.cells #[.bool pt.s, .int .i64 pt.H.toInt, .int .i64 pt.L.toInt, .int .i64 pt.b] 31)
  have as_W2 : Hid ((W1.alloc (.cells #[.bool pt.s, .int .i64 pt.H.toInt, .int .i64 pt.L.toInt, .int .i64 pt.b] 31)).heap.size = W1.heap.size + 1) := hidP (by simp)
  generalize W1.alloc (.cells #[.bool pt.s, .int .i64 pt.H.toInt, .int .i64 pt.L.toInt, .int .i64 pt.b] 31) = W2 at *
  have pb0_W2 := (ab_W2.cell pbL_W1).trans pb0_W1
  have pb1_W2 := (ab_W2.cell pbL_W1).trans pb1_W1
  have pbF_W2 : ∀ o, W2.frozen? ⟨w.heap.size, o, none⟩ = false := fun o => (ab_W2.frozen pbL_W1).trans (pbF_W1 o)
  have pbL_W2 : w.heap.size < W2.heap.size := Nat.lt_of_lt_of_le pbL_W1 ab_W2.size
  have acc_W2 := hidP (acc_W1.out.trans (ab_W2.mono acc_W1.out.size))
  have sz_W2 : Hid (W1.heap.size ≤ W2.heap.size) := hidP ab_W2.size
  clear ab_W2 pb0_W1 pb1_W1 pbF_W1 pbL_W1 acc_W1
  rw [as_W1.out] at at0_W2 at1_W2 at2_W2 at3_W2 atL_W2
  have atF_W2' : ∀ o, W2.frozen? ⟨w.heap.size + 1, o, none⟩ = false := fun o => by have := atF_W2 o; rw [as_W1.out] at this; exact this
  clear atF_W2
  have atF_W2 := atF_W2'
  clear atF_W2'
  obtain ⟨rs0_W3, rs1_W3⟩ := box2C W2 27 (.slice none 0 0) (.slice none 0 0)
  have rsF_W3 : ∀ o, (W2.alloc (.cells #[.slice none 0 0, .slice none 0 0] 27)).frozen? ⟨W2.heap.size, o, none⟩ = false := fun o => by simp [go_sem]
  have rsL_W3 : W2.heap.size < (W2.alloc (.cells #[.slice none 0 0, .slice none 0 0] 27)).heap.size := by simp
  have ab_W3 := alloc_below W2 (.cells #[.slice none 0 0, .slice none 0 0] 27)
  have as_W3 : Hid ((W2.alloc (.cells #[.slice none 0 0, .slice none 0 0] 27)).heap.size = W2.heap.size + 1) := hidP (by simp)
  generalize W2.alloc (.cells #[.slice none 0 0, .slice none 0 0] 27) = W3 at *
  have pb0_W3 := (ab_W3.cell pbL_W2).trans pb0_W2
  have pb1_W3 := (ab_W3.cell pbL_W2).trans pb1_W2
  have pbF_W3 : ∀ o, W3.frozen? ⟨w.heap.size, o, none⟩ = false := fun o => (ab_W3.frozen pbL_W2).trans (pbF_W2 o)
  have pbL_W3 : w.heap.size < W3.heap.size := Nat.lt_of_lt_of_le pbL_W2 ab_W3.size
  have at0_W3 := (ab_W3.cell atL_W2).trans at0_W2
  have at1_W3 := (ab_W3.cell atL_W2).trans at1_W2
  have at2_W3 := (ab_W3.cell atL_W2).trans at2_W2
  have at3_W3 := (ab_W3.cell atL_W2).trans at3_W2
  have atF_W3 : ∀ o, W3.frozen? ⟨w.heap.size + 1, o, none⟩ = false := fun o => (ab_W3.frozen atL_W2).trans (atF_W2 o)
  have atL_W3 : w.heap.size + 1 < W3.heap.size := Nat.lt_of_lt_of_le atL_W2 ab_W3.size
  have acc_W3 := hidP (acc_W2.out.trans (ab_W3.mono acc_W2.out.size))
  have sz_W3 : Hid (W2.heap.size ≤ W3.heap.size) := hidP ab_W3.size
  clear ab_W3 pb0_W2 pb1_W2 pbF_W2 pbL_W2 at0_W2 at1_W2 at2_W2 at3_W2 atF_W2 atL_W2 acc_W2
  rw [as_W2.out, as_W1.out] at rs0_W3 rs1_W3 rsL_W3
  have rsF_W3' : ∀ o, W3.frozen? ⟨w.heap.size + 1 + 1, o, none⟩ = false := fun o => by have := rsF_W3 o; rw [as_W2.out, as_W1.out] at this; exact this
  clear rsF_W3
  have rsF_W3 := rsF_W3'
  clear rsF_W3'
  obtain ⟨rp0_W4, rp1_W4, rp2_W4, rp3_W4⟩ := box4C W3 31 (.bool false) (.int .i64 0) (.int .i64 0) (.int .i64 0)
  have rpF_W4 : ∀ o, (W3.alloc (.cells #[.bool false, .int .i64 0, .int .i64 0, .int .i64 0] 31)).frozen? ⟨W3.heap.size, o, none⟩ = false := fun o => by simp [go_sem]
  have rpL_W4 : W3.heap.size < (W3.alloc (.cells #[.bool false, .int .i64 0, .int .i64 0, .int .i64 0] 31)).heap.size := by simp
  have ab_W4 := alloc_below W3 (.cells #[.bool false, .int .i64 0, .int .i64 0, .int .i64 0] 31)
  have as_W4 : Hid ((W3.alloc (.cells #[.bool false, .int .i64 0, .int .i64 0, .int .i64 0] 31)).heap.size = W3.heap.size + 1) := hidP (by simp)
  generalize W3.alloc (.cells #[.bool false, .int .i64 0, .int .i64 0, .int .i64 0] 31) = W4 at *
  have pb0_W4 := (ab_W4.cell pbL_W3).trans pb0_W3
  have pb1_W4 := (ab_W4.cell pbL_W3).trans pb1_W3
  have pbF_W4 : ∀ o, W4.frozen? ⟨w.heap.size, o, none⟩ = false := fun o => (ab_W4.frozen pbL_W3).trans (pbF_W3 o)
  have pbL_W4 : w.heap.size < W4.heap.size := Nat.lt_of_lt_of_le pbL_W3 ab_W4.size
  have at0_W4 := (ab_W4.cell atL_W3).trans at0_W3
  have at1_W4 := (ab_W4.cell atL_W3).trans at1_W3
  have at2_W4 := (ab_W4.cell atL_W3).trans at2_W3
  have at3_W4 := (ab_W4.cell atL_W3).trans at3_W3
  have atF_W4 : ∀ o, W4.frozen? ⟨w.heap.size + 1, o, none⟩ = false := fun o => (ab_W4.frozen atL_W3).trans (atF_W3 o)
  have atL_W4 : w.heap.size + 1 < W4.heap.size := Nat.lt_of_lt_of_le atL_W3 ab_W4.size
  have rs0_W4 := (ab_W4.cell rsL_W3).trans rs0_W3
  have rs1_W4 := (ab_W4.cell rsL_W3).trans rs1_W3
  have rsF_W4 : ∀ o, W4.frozen? ⟨w.heap.size + 1 + 1, o, none⟩ = false := fun o => (ab_W4.frozen rsL_W3).trans (rsF_W3 o)
  have rsL_W4 : w.heap.size + 1 + 1 < W4.heap.size := Nat.lt_of_lt_of_le rsL_W3 ab_W4.size
  have acc_W4 := hidP (acc_W3.out.trans (ab_W4.mono acc_W3.out.size))
  have sz_W4 : Hid (W3.heap.size ≤ W4.heap.size) := hidP ab_W4.size
  clear ab_W4 pb0_W3 pb1_W3 pbF_W3 pbL_W3 at0_W3 at1_W3 at2_W3 at3_W3 atF_W3 atL_W3 rs0_W3 rs1_W3 rsF_W3 rsL_W3 acc_W3
  rw [as_W3.out, as_W2.out, as_W1.out] at rp0_W4 rp1_W4 rp2_W4 rp3_W4 rpL_W4
  have rpF_W4' : ∀ o, W4.frozen? ⟨w.heap.size + 1 + 1 + 1, o, none⟩ = false := fun o => by have := rpF_W4 o; rw [as_W3.out, as_W2.out, as_W1.out] at this; exact this
  clear rpF_W4
  have rpF_W4 := rpF_W4'
  clear rpF_W4'
  have rsP_W4 := hidP (BxK.mk2 rs0_W4 rs1_W4 rsF_W4 rsL_W4)
  clear rs0_W4 rs1_W4 rsF_W4 rsL_W4
  have rpP_W4 := hidP (BxK.mk4 rp0_W4 rp1_W4 rp2_W4 rp3_W4 rpF_W4 rpL_W4)
  clear rp0_W4 rp1_W4 rp2_W4 rp3_W4 rpF_W4 rpL_W4
  refine (HOw.out _ acc_W4.out).mono ?_
  rintro e w5 ⟨a5, c5, b5, d5, rfl, og5, oh5, nq5, hb5⟩
  have OX := hidP (And.intro og5 (And.intro oh5 nq5))
  clear og5 oh5 nq5
  have rsP_w5 := hidP (rsP_W4.out.later hb5)
  have rpP_w5 := hidP (rpP_W4.out.later hb5)
  clear rsP_W4 rpP_W4
  have pb0_w5 := (hb5.cell pbL_W4).trans pb0_W4
  have pb1_w5 := (hb5.cell pbL_W4).trans pb1_W4
  have pbF_w5 : ∀ o, w5.frozen? ⟨w.heap.size, o, none⟩ = false := fun o => (hb5.frozen pbL_W4).trans (pbF_W4 o)
  have pbL_w5 : w.heap.size < w5.heap.size := Nat.lt_of_lt_of_le pbL_W4 hb5.size
  have at0_w5 := (hb5.cell atL_W4).trans at0_W4
  have at1_w5 := (hb5.cell atL_W4).trans at1_W4
  have at2_w5 := (hb5.cell atL_W4).trans at2_W4
  have at3_w5 := (hb5.cell atL_W4).trans at3_W4
  have atF_w5 : ∀ o, w5.frozen? ⟨w.heap.size + 1, o, none⟩ = false := fun o => (hb5.frozen atL_W4).trans (atF_W4 o)
  have atL_w5 : w.heap.size + 1 < w5.heap.size := Nat.lt_of_lt_of_le atL_W4 hb5.size
  have acc_w5 := hidP (acc_W4.out.trans (hb5.mono acc_W4.out.size))
  have sz_w5 : Hid (W4.heap.size ≤ w5.heap.size) := hidP hb5.size
  clear hb5 pb0_W4 pb1_W4 pbF_W4 pbL_W4 at0_W4 at1_W4 at2_W4 at3_W4 atF_W4 atL_W4 acc_W4
  have HOR1 := hidP (And.intro as_W1.out (And.intro sz_W1.out (And.intro as_W2.out (And.intro sz_W2.out (And.intro as_W3.out (And.intro sz_W3.out (And.intro as_W4.out (And.intro sz_W4.out sz_w5.out))))))))
  clear sz_W1 sz_W2 sz_W3 sz_W4 sz_w5
  have oP_w5 := hidP (OX.out.1)
  have lhP : Hid (∀ k, (Value.slice a5 np c5).ownBlock = some k → W4.heap.size ≤ k ∧ k < w5.heap.size) := hidP (fun k hk => OwnG.lt oP_w5.out k hk)
  have oQ_w5 := hidP (OX.out.2.1)
  have lhQ : Hid (∀ k, (Value.slice b5 nb d5).ownBlock = some k → W4.heap.size ≤ k ∧ k < w5.heap.size) := hidP (fun k hk => OwnG.lt oQ_w5.out k hk)
  have ne5 := hidP OX.out.2.2
  clear OX
  go_wp2_with fail
  have nxat : w.heap.size + 1 ≠ w.heap.size := (by have := HOR1.out; omega)
  have ryP : ∀ k, (Value.slice a5 np c5).ownBlock = some k → some (w.heap.size) ≠ some k := (fun k hk e => by have h5 := lhP.out k hk; have h6 := Option.some.inj e; have := HOR1.out; omega)
  have ryQ : ∀ k, (Value.slice b5 nb d5).ownBlock = some k → some (w.heap.size) ≠ some k := (fun k hk e => by have h5 := lhQ.out k hk; have h6 := Option.some.inj e; have := HOR1.out; omega)
  have lw : w.heap.size ≤ w.heap.size := (by have := HOR1.out; omega)
  have nxrs : w.heap.size + 1 + 1 ≠ w.heap.size := (by have := HOR1.out; omega)
  have nxrp : w.heap.size + 1 + 1 + 1 ≠ w.heap.size := (by have := HOR1.out; omega)
  generalize hWn : (w5.setCell ⟨w.heap.size, 0, none⟩ (.slice a5 np c5)).setCell ⟨w.heap.size, 1, none⟩ (.slice b5 nb d5) = W6 at *
  have pb0_W6 : W6.cell? ⟨w.heap.size, 0, none⟩ = some (.slice a5 np c5) := by rw [← hWn]; simp [go_sem, pb0_w5]
  have pb1_W6 : W6.cell? ⟨w.heap.size, 1, none⟩ = some (.slice b5 nb d5) := by rw [← hWn]; simp [go_sem, pb1_w5]
  have pbF_W6 : ∀ o, W6.frozen? ⟨w.heap.size, o, none⟩ = false := fun o => by rw [← hWn]; exact (frzC (frzC (pbF_w5 o)))
  have pbL_W6 : w.heap.size < W6.heap.size := by rw [← hWn]; simpa using pbL_w5
  have at0_W6 : W6.cell? ⟨w.heap.size + 1, 0, none⟩ = some (.bool pt.s) := by rw [← hWn]; exact (cellC (cellC at0_w5 nxat) nxat)
  have at1_W6 : W6.cell? ⟨w.heap.size + 1, 1, none⟩ = some (.int .i64 pt.H.toInt) := by rw [← hWn]; exact (cellC (cellC at1_w5 nxat) nxat)
  have at2_W6 : W6.cell? ⟨w.heap.size + 1, 2, none⟩ = some (.int .i64 pt.L.toInt) := by rw [← hWn]; exact (cellC (cellC at2_w5 nxat) nxat)
  have at3_W6 : W6.cell? ⟨w.heap.size + 1, 3, none⟩ = some (.int .i64 pt.b) := by rw [← hWn]; exact (cellC (cellC at3_w5 nxat) nxat)
  have atF_W6 : ∀ o, W6.frozen? ⟨w.heap.size + 1, o, none⟩ = false := fun o => by rw [← hWn]; exact (frzC (frzC (atF_w5 o)))
  have atL_W6 : w.heap.size + 1 < W6.heap.size := by rw [← hWn]; simpa using atL_w5
  have rsP_W6 : Hid (BxK W6 (w.heap.size + 1 + 1) [.slice none 0 0, .slice none 0 0]) := hidP (by rw [← hWn]; exact ((rsP_w5.out.set nxrs).set nxrs))
  have rpP_W6 : Hid (BxK W6 (w.heap.size + 1 + 1 + 1) [.bool false, .int .i64 0, .int .i64 0, .int .i64 0]) := hidP (by rw [← hWn]; exact ((rpP_w5.out.set nxrp).set nxrp))
  have oP_W6 : Hid (OwnG KPl 46 W6 (W4.heap.size) (.slice a5 np c5) (ps)) := hidP (by rw [← hWn]; exact (OwnG.grown (OwnG.grown oP_w5.out (grown_cellG _ _ _ _) ryP) (grown_cellG _ _ _ _) ryP))
  have oQ_W6 : Hid (OwnG KBk 38 W6 (W4.heap.size) (.slice b5 nb d5) (bs)) := hidP (by rw [← hWn]; exact (OwnG.grown (OwnG.grown oQ_w5.out (grown_cellG _ _ _ _) ryQ) (grown_cellG _ _ _ _) ryQ))
  have acc_W6 : Hid (Below w.heap.size w W6) := hidP (by rw [← hWn]; exact (Below.setCell (Below.setCell acc_w5.out lw _) lw _))
  have sz_W6 : Hid (W6.heap.size = w5.heap.size) := hidP (by rw [← hWn]; simp)
  clear hWn nxat ryP ryQ lw pb0_w5 pb1_w5 pbF_w5 pbL_w5 at0_w5 at1_w5 at2_w5 at3_w5 atF_w5 atL_w5 nxrs rsP_w5 nxrp rpP_w5 oP_w5 oQ_w5 acc_w5
  refine (HPO.out _ a5 c5 b5 d5 oP_W6.out.row oQ_W6.out.row).mono ?_
  rintro e w7 ⟨rfl, hb7⟩
  have rsP_w7 := hidP (rsP_W6.out.later hb7)
  have rpP_w7 := hidP (rpP_W6.out.later hb7)
  clear rsP_W6 rpP_W6
  have pb0_w7 := (hb7.cell pbL_W6).trans pb0_W6
  have pb1_w7 := (hb7.cell pbL_W6).trans pb1_W6
  have pbF_w7 : ∀ o, w7.frozen? ⟨w.heap.size, o, none⟩ = false := fun o => (hb7.frozen pbL_W6).trans (pbF_W6 o)
  have pbL_w7 : w.heap.size < w7.heap.size := Nat.lt_of_lt_of_le pbL_W6 hb7.size
  have at0_w7 := (hb7.cell atL_W6).trans at0_W6
  have at1_w7 := (hb7.cell atL_W6).trans at1_W6
  have at2_w7 := (hb7.cell atL_W6).trans at2_W6
  have at3_w7 := (hb7.cell atL_W6).trans at3_W6
  have atF_w7 : ∀ o, w7.frozen? ⟨w.heap.size + 1, o, none⟩ = false := fun o => (hb7.frozen atL_W6).trans (atF_W6 o)
  have atL_w7 : w.heap.size + 1 < w7.heap.size := Nat.lt_of_lt_of_le atL_W6 hb7.size
  have oP_w7 := hidP (OwnG.later oP_W6.out hb7)
  have oQ_w7 := hidP (OwnG.later oQ_W6.out hb7)
  have acc_w7 := hidP (acc_W6.out.trans (hb7.mono acc_W6.out.size))
  have sz_w7 : Hid (W6.heap.size ≤ w7.heap.size) := hidP hb7.size
  clear hb7 pb0_W6 pb1_W6 pbF_W6 pbL_W6 at0_W6 at1_W6 at2_W6 at3_W6 atF_W6 atL_W6 oP_W6 oQ_W6 acc_W6
  cases r1
  · clear at0_w7 at1_w7 at2_w7 at3_w7 atF_w7 atL_w7
    have rs0_w7 := rsP_w7.out.1 0 _ rfl
    have rs1_w7 := rsP_w7.out.1 1 _ rfl
    have rsF_w7 := rsP_w7.out.2.1
    have rsL_w7 := rsP_w7.out.2.2
    clear rsP_w7
    have rp0_w7 := rpP_w7.out.1 0 _ rfl
    have rp1_w7 := rpP_w7.out.1 1 _ rfl
    have rp2_w7 := rpP_w7.out.1 2 _ rfl
    have rp3_w7 := rpP_w7.out.1 3 _ rfl
    have rpF_w7 := rpP_w7.out.2.1
    have rpL_w7 := rpP_w7.out.2.2
    clear rpP_w7
    go_wp2_with fail
    have eO := HO.out.trans (cv1 H1.out)
    subst eO
    refine bodyPost_ret (v := .tuple #[.agg #[.slice a5 np c5, .slice b5 nb d5], .agg #[.bool false, .int .i64 0, .int .i64 0, .int .i64 0], .int .i64 1]) (by simp [results, Tryz.results8, go_sem, rs0_w7, rs1_w7, rp0_w7, rp1_w7, rp2_w7, rp3_w7]) rfl ⟨_, _, _, _, _, rfl, ?_, ?_, ?_, ?_, ?_⟩
    · exact HN.out.2
    · have hB : w.heap.size + 1 + 1 + 1 < W4.heap.size ∧ w.heap.size ≤ W4.heap.size := (by have := HOR1.out; have := sz_W6.out; have := sz_w7.out; omega)
      refine OwnG.mono (B := W4.heap.size) ?_ hB.2
      repeat (first | (with_reducible refine OwnG.drewC ?_) | (with_reducible refine OwnG.grown ?_ (grown_cellG _ _ _ _) ?_; rotate_left; (focus (exact OwnG.ne_ofC oP_w7.out (by omega)))))
      with_reducible exact oP_w7.out
    · have hB : w.heap.size + 1 + 1 + 1 < W4.heap.size ∧ w.heap.size ≤ W4.heap.size := (by have := HOR1.out; have := sz_W6.out; have := sz_w7.out; omega)
      refine OwnG.mono (B := W4.heap.size) ?_ hB.2
      repeat (first | (with_reducible refine OwnG.drewC ?_) | (with_reducible refine OwnG.grown ?_ (grown_cellG _ _ _ _) ?_; rotate_left; (focus (exact OwnG.ne_ofC oQ_w7.out (by omega)))))
      with_reducible exact oQ_w7.out
    · exact ne5.out
    · repeat (first | (with_reducible refine Below.drew ?_) | (with_reducible refine Below.setCell ?_ ?_ _; rotate_left; (focus (first | (simp; done) | (simp; omega) | (dsimp only; have := HOR1.out; have := sz_W6.out; have := sz_w7.out; omega)))))
      exact acc_w7.out
  go_wp2_with fail
  refine (HPk.out _).mono ?_
  rintro e w8 ⟨rfl, hb8⟩
  have rsP_w8 := hidP (rsP_w7.out.later hb8)
  have rpP_w8 := hidP (rpP_w7.out.later hb8)
  clear rsP_w7 rpP_w7
  have pb0_w8 := (hb8.cell pbL_w7).trans pb0_w7
  have pb1_w8 := (hb8.cell pbL_w7).trans pb1_w7
  have pbF_w8 : ∀ o, w8.frozen? ⟨w.heap.size, o, none⟩ = false := fun o => (hb8.frozen pbL_w7).trans (pbF_w7 o)
  have pbL_w8 : w.heap.size < w8.heap.size := Nat.lt_of_lt_of_le pbL_w7 hb8.size
  have at0_w8 := (hb8.cell atL_w7).trans at0_w7
  have at1_w8 := (hb8.cell atL_w7).trans at1_w7
  have at2_w8 := (hb8.cell atL_w7).trans at2_w7
  have at3_w8 := (hb8.cell atL_w7).trans at3_w7
  have atF_w8 : ∀ o, w8.frozen? ⟨w.heap.size + 1, o, none⟩ = false := fun o => (hb8.frozen atL_w7).trans (atF_w7 o)
  have atL_w8 : w.heap.size + 1 < w8.heap.size := Nat.lt_of_lt_of_le atL_w7 hb8.size
  have oP_w8 := hidP (OwnG.later oP_w7.out hb8)
  have oQ_w8 := hidP (OwnG.later oQ_w7.out hb8)
  have acc_w8 := hidP (acc_w7.out.trans (hb8.mono acc_w7.out.size))
  have sz_w8 : Hid (w7.heap.size ≤ w8.heap.size) := hidP hb8.size
  clear hb8 pb0_w7 pb1_w7 pbF_w7 pbL_w7 at0_w7 at1_w7 at2_w7 at3_w7 atF_w7 atL_w7 oP_w7 oQ_w7 acc_w7
  cases r2
  · clear at0_w8 at1_w8 at2_w8 at3_w8 atF_w8 atL_w8
    have rs0_w8 := rsP_w8.out.1 0 _ rfl
    have rs1_w8 := rsP_w8.out.1 1 _ rfl
    have rsF_w8 := rsP_w8.out.2.1
    have rsL_w8 := rsP_w8.out.2.2
    clear rsP_w8
    have rp0_w8 := rpP_w8.out.1 0 _ rfl
    have rp1_w8 := rpP_w8.out.1 1 _ rfl
    have rp2_w8 := rpP_w8.out.1 2 _ rfl
    have rp3_w8 := rpP_w8.out.1 3 _ rfl
    have rpF_w8 := rpP_w8.out.2.1
    have rpL_w8 := rpP_w8.out.2.2
    clear rpP_w8
    go_wp2_with fail
    have eO := HO.out.trans (cv2 H1.out H2.out)
    subst eO
    refine bodyPost_ret (v := .tuple #[.agg #[.slice a5 np c5, .slice b5 nb d5], .agg #[.bool false, .int .i64 0, .int .i64 0, .int .i64 0], .int .i64 1]) (by simp [results, Tryz.results8, go_sem, rs0_w8, rs1_w8, rp0_w8, rp1_w8, rp2_w8, rp3_w8]) rfl ⟨_, _, _, _, _, rfl, ?_, ?_, ?_, ?_, ?_⟩
    · exact HN.out.2
    · have hB : w.heap.size + 1 + 1 + 1 < W4.heap.size ∧ w.heap.size ≤ W4.heap.size := (by have := HOR1.out; have := sz_W6.out; have := sz_w7.out; have := sz_w8.out; omega)
      refine OwnG.mono (B := W4.heap.size) ?_ hB.2
      repeat (first | (with_reducible refine OwnG.drewC ?_) | (with_reducible refine OwnG.grown ?_ (grown_cellG _ _ _ _) ?_; rotate_left; (focus (exact OwnG.ne_ofC oP_w8.out (by omega)))))
      with_reducible exact oP_w8.out
    · have hB : w.heap.size + 1 + 1 + 1 < W4.heap.size ∧ w.heap.size ≤ W4.heap.size := (by have := HOR1.out; have := sz_W6.out; have := sz_w7.out; have := sz_w8.out; omega)
      refine OwnG.mono (B := W4.heap.size) ?_ hB.2
      repeat (first | (with_reducible refine OwnG.drewC ?_) | (with_reducible refine OwnG.grown ?_ (grown_cellG _ _ _ _) ?_; rotate_left; (focus (exact OwnG.ne_ofC oQ_w8.out (by omega)))))
      with_reducible exact oQ_w8.out
    · exact ne5.out
    · repeat (first | (with_reducible refine Below.drew ?_) | (with_reducible refine Below.setCell ?_ ?_ _; rotate_left; (focus (first | (simp; done) | (simp; omega) | (dsimp only; have := HOR1.out; have := sz_W6.out; have := sz_w7.out; have := sz_w8.out; omega)))))
      exact acc_w8.out
  go_wp2_with fail
  refine (HOO.out _).mono ?_
  rintro e w8' ⟨rfl, h8⟩
  have h8 := h8.symm
  subst h8
  cases r3
  · clear at0_w8 at1_w8 at2_w8 at3_w8 atF_w8 atL_w8
    have rs0_w8 := rsP_w8.out.1 0 _ rfl
    have rs1_w8 := rsP_w8.out.1 1 _ rfl
    have rsF_w8 := rsP_w8.out.2.1
    have rsL_w8 := rsP_w8.out.2.2
    clear rsP_w8
    have rp0_w8 := rpP_w8.out.1 0 _ rfl
    have rp1_w8 := rpP_w8.out.1 1 _ rfl
    have rp2_w8 := rpP_w8.out.1 2 _ rfl
    have rp3_w8 := rpP_w8.out.1 3 _ rfl
    have rpF_w8 := rpP_w8.out.2.1
    have rpL_w8 := rpP_w8.out.2.2
    clear rpP_w8
    go_wp2_with fail
    have eO := HO.out.trans (cv3 H1.out H2.out H3.out)
    subst eO
    refine bodyPost_ret (v := .tuple #[.agg #[.slice a5 np c5, .slice b5 nb d5], .agg #[.bool false, .int .i64 0, .int .i64 0, .int .i64 0], .int .i64 1]) (by simp [results, Tryz.results8, go_sem, rs0_w8, rs1_w8, rp0_w8, rp1_w8, rp2_w8, rp3_w8]) rfl ⟨_, _, _, _, _, rfl, ?_, ?_, ?_, ?_, ?_⟩
    · exact HN.out.2
    · have hB : w.heap.size + 1 + 1 + 1 < W4.heap.size ∧ w.heap.size ≤ W4.heap.size := (by have := HOR1.out; have := sz_W6.out; have := sz_w7.out; have := sz_w8.out; omega)
      refine OwnG.mono (B := W4.heap.size) ?_ hB.2
      repeat (first | (with_reducible refine OwnG.drewC ?_) | (with_reducible refine OwnG.grown ?_ (grown_cellG _ _ _ _) ?_; rotate_left; (focus (exact OwnG.ne_ofC oP_w8.out (by omega)))))
      with_reducible exact oP_w8.out
    · have hB : w.heap.size + 1 + 1 + 1 < W4.heap.size ∧ w.heap.size ≤ W4.heap.size := (by have := HOR1.out; have := sz_W6.out; have := sz_w7.out; have := sz_w8.out; omega)
      refine OwnG.mono (B := W4.heap.size) ?_ hB.2
      repeat (first | (with_reducible refine OwnG.drewC ?_) | (with_reducible refine OwnG.grown ?_ (grown_cellG _ _ _ _) ?_; rotate_left; (focus (exact OwnG.ne_ofC oQ_w8.out (by omega)))))
      with_reducible exact oQ_w8.out
    · exact ne5.out
    · repeat (first | (with_reducible refine Below.drew ?_) | (with_reducible refine Below.setCell ?_ ?_ _; rotate_left; (focus (first | (simp; done) | (simp; omega) | (dsimp only; have := HOR1.out; have := sz_W6.out; have := sz_w7.out; have := sz_w8.out; omega)))))
      exact acc_w8.out
  by_cases h4 : plc pt ps < 0
  · have d4 : decide (plc pt ps < 0) = true := decide_eq_true h4
    have H4x := hidP h4
    obtain ⟨pl, hpl⟩ : ∃ pl, plc pt ps = pl := ⟨_, rfl⟩
    rw [hpl] at HPl d4 h4
    clear hpl
    go_wp2_with fail
    refine (HPl.out _ a5 c5 b5 d5 oP_w8.out.row).mono ?_
    rintro e w9 ⟨rfl, hb9⟩
    have rsP_w9 := hidP (rsP_w8.out.later hb9)
    have rpP_w9 := hidP (rpP_w8.out.later hb9)
    clear rsP_w8 rpP_w8
    have pb0_w9 := (hb9.cell pbL_w8).trans pb0_w8
    have pb1_w9 := (hb9.cell pbL_w8).trans pb1_w8
    have pbF_w9 : ∀ o, w9.frozen? ⟨w.heap.size, o, none⟩ = false := fun o => (hb9.frozen pbL_w8).trans (pbF_w8 o)
    have pbL_w9 : w.heap.size < w9.heap.size := Nat.lt_of_lt_of_le pbL_w8 hb9.size
    have at0_w9 := (hb9.cell atL_w8).trans at0_w8
    have at1_w9 := (hb9.cell atL_w8).trans at1_w8
    have at2_w9 := (hb9.cell atL_w8).trans at2_w8
    have at3_w9 := (hb9.cell atL_w8).trans at3_w8
    have atF_w9 : ∀ o, w9.frozen? ⟨w.heap.size + 1, o, none⟩ = false := fun o => (hb9.frozen atL_w8).trans (atF_w8 o)
    have atL_w9 : w.heap.size + 1 < w9.heap.size := Nat.lt_of_lt_of_le atL_w8 hb9.size
    have oP_w9 := hidP (OwnG.later oP_w8.out hb9)
    have oQ_w9 := hidP (OwnG.later oQ_w8.out hb9)
    have acc_w9 := hidP (acc_w8.out.trans (hb9.mono acc_w8.out.size))
    have sz_w9 : Hid (w8.heap.size ≤ w9.heap.size) := hidP hb9.size
    clear hb9 pb0_w8 pb1_w8 pbF_w8 pbL_w8 at0_w8 at1_w8 at2_w8 at3_w8 atF_w8 atL_w8 oP_w8 oQ_w8 acc_w8
    have rs0_w9 := rsP_w9.out.1 0 _ rfl
    have rs1_w9 := rsP_w9.out.1 1 _ rfl
    have rsF_w9 := rsP_w9.out.2.1
    have rsL_w9 := rsP_w9.out.2.2
    clear rsP_w9
    have rp0_w9 := rpP_w9.out.1 0 _ rfl
    have rp1_w9 := rpP_w9.out.1 1 _ rfl
    have rp2_w9 := rpP_w9.out.1 2 _ rfl
    have rp3_w9 := rpP_w9.out.1 3 _ rfl
    have rpF_w9 := rpP_w9.out.2.1
    have rpL_w9 := rpP_w9.out.2.2
    clear rpP_w9
    go_wp2_with fail
    have eO := HO.out.trans (cv4 H1.out H2.out H3.out H4x.out)
    subst eO
    refine bodyPost_ret (v := .tuple #[.agg #[.slice a5 np c5, .slice b5 nb d5], .agg #[.bool false, .int .i64 0, .int .i64 0, .int .i64 0], .int .i64 4]) (by simp [results, Tryz.results8, go_sem, rs0_w9, rs1_w9, rp0_w9, rp1_w9, rp2_w9, rp3_w9]) rfl ⟨_, _, _, _, _, rfl, ?_, ?_, ?_, ?_, ?_⟩
    · exact HN.out.2
    · have hB : w.heap.size + 1 + 1 + 1 < W4.heap.size ∧ w.heap.size ≤ W4.heap.size := (by have := HOR1.out; have := sz_W6.out; have := sz_w7.out; have := sz_w8.out; have := sz_w9.out; omega)
      refine OwnG.mono (B := W4.heap.size) ?_ hB.2
      repeat (first | (with_reducible refine OwnG.drewC ?_) | (with_reducible refine OwnG.grown ?_ (grown_cellG _ _ _ _) ?_; rotate_left; (focus (exact OwnG.ne_ofC oP_w9.out (by omega)))))
      with_reducible exact oP_w9.out
    · have hB : w.heap.size + 1 + 1 + 1 < W4.heap.size ∧ w.heap.size ≤ W4.heap.size := (by have := HOR1.out; have := sz_W6.out; have := sz_w7.out; have := sz_w8.out; have := sz_w9.out; omega)
      refine OwnG.mono (B := W4.heap.size) ?_ hB.2
      repeat (first | (with_reducible refine OwnG.drewC ?_) | (with_reducible refine OwnG.grown ?_ (grown_cellG _ _ _ _) ?_; rotate_left; (focus (exact OwnG.ne_ofC oQ_w9.out (by omega)))))
      with_reducible exact oQ_w9.out
    · exact ne5.out
    · repeat (first | (with_reducible refine Below.drew ?_) | (with_reducible refine Below.setCell ?_ ?_ _; rotate_left; (focus (first | (simp; done) | (simp; omega) | (dsimp only; have := HOR1.out; have := sz_W6.out; have := sz_w7.out; have := sz_w8.out; have := sz_w9.out; omega)))))
      exact acc_w9.out
  obtain ⟨j, q, hj, hjq⟩ := plc_get h4
  have H4 := hidP h4
  rw [hj] at HPl
  have eb := HBt.out j q hj hjq
  have hjn : j < np := by have := (List.getElem?_eq_some_iff.1 hjq).1; have := HN.out.1; omega
  clear h4 hj
  have g1 : decide ((j : Int) < 0) = false := decide_eq_false (by omega)
  have g2 : ¬ ((j : Int) < 0) := by omega
  have g3 : (0 : Int) ≤ (j : Int) := by omega
  have g4 : (j : Int) < (np : Int) := by omega
  have HJ := hidP (And.intro hjq eb)
  clear hjq eb
  go_wp2_with fail
  refine (HPl.out _ a5 c5 b5 d5 oP_w8.out.row).mono ?_
  rintro e w9 ⟨rfl, hb9⟩
  have rsP_w9 := hidP (rsP_w8.out.later hb9)
  have rpP_w9 := hidP (rpP_w8.out.later hb9)
  clear rsP_w8 rpP_w8
  have pb0_w9 := (hb9.cell pbL_w8).trans pb0_w8
  have pb1_w9 := (hb9.cell pbL_w8).trans pb1_w8
  have pbF_w9 : ∀ o, w9.frozen? ⟨w.heap.size, o, none⟩ = false := fun o => (hb9.frozen pbL_w8).trans (pbF_w8 o)
  have pbL_w9 : w.heap.size < w9.heap.size := Nat.lt_of_lt_of_le pbL_w8 hb9.size
  have at0_w9 := (hb9.cell atL_w8).trans at0_w8
  have at1_w9 := (hb9.cell atL_w8).trans at1_w8
  have at2_w9 := (hb9.cell atL_w8).trans at2_w8
  have at3_w9 := (hb9.cell atL_w8).trans at3_w8
  have atF_w9 : ∀ o, w9.frozen? ⟨w.heap.size + 1, o, none⟩ = false := fun o => (hb9.frozen atL_w8).trans (atF_w8 o)
  have atL_w9 : w.heap.size + 1 < w9.heap.size := Nat.lt_of_lt_of_le atL_w8 hb9.size
  have oP_w9 := hidP (OwnG.later oP_w8.out hb9)
  have oQ_w9 := hidP (OwnG.later oQ_w8.out hb9)
  have acc_w9 := hidP (acc_w8.out.trans (hb9.mono acc_w8.out.size))
  have sz_w9 : Hid (w8.heap.size ≤ w9.heap.size) := hidP hb9.size
  clear hb9 pb0_w8 pb1_w8 pbF_w8 pbL_w8 at0_w8 at1_w8 at2_w8 at3_w8 atF_w8 atL_w8 oP_w8 oQ_w8 acc_w8
  by_cases h5 : nb = 60
  · have e5 : ((nb : Int) == 60) = true := by simp [h5]
    have H5 := hidP h5
    clear h5
    have rs0_w9 := rsP_w9.out.1 0 _ rfl
    have rs1_w9 := rsP_w9.out.1 1 _ rfl
    have rsF_w9 := rsP_w9.out.2.1
    have rsL_w9 := rsP_w9.out.2.2
    clear rsP_w9
    have rp0_w9 := rpP_w9.out.1 0 _ rfl
    have rp1_w9 := rpP_w9.out.1 1 _ rfl
    have rp2_w9 := rpP_w9.out.1 2 _ rfl
    have rp3_w9 := rpP_w9.out.1 3 _ rfl
    have rpF_w9 := rpP_w9.out.2.1
    have rpL_w9 := rpP_w9.out.2.2
    clear rpP_w9
    go_wp2_with fail
    have eO := HO.out.trans (cv5 H1.out H2.out H3.out (by have := H4.out; omega) (HN.out.2.symm.trans H5.out))
    subst eO
    refine bodyPost_ret (v := .tuple #[.agg #[.slice a5 np c5, .slice b5 nb d5], .agg #[.bool false, .int .i64 0, .int .i64 0, .int .i64 0], .int .i64 2]) (by simp [results, Tryz.results8, go_sem, rs0_w9, rs1_w9, rp0_w9, rp1_w9, rp2_w9, rp3_w9]) rfl ⟨_, _, _, _, _, rfl, ?_, ?_, ?_, ?_, ?_⟩
    · exact HN.out.2
    · have hB : w.heap.size + 1 + 1 + 1 < W4.heap.size ∧ w.heap.size ≤ W4.heap.size := (by have := HOR1.out; have := sz_W6.out; have := sz_w7.out; have := sz_w8.out; have := sz_w9.out; omega)
      refine OwnG.mono (B := W4.heap.size) ?_ hB.2
      repeat (first | (with_reducible refine OwnG.drewC ?_) | (with_reducible refine OwnG.grown ?_ (grown_cellG _ _ _ _) ?_; rotate_left; (focus (exact OwnG.ne_ofC oP_w9.out (by omega)))))
      with_reducible exact oP_w9.out
    · have hB : w.heap.size + 1 + 1 + 1 < W4.heap.size ∧ w.heap.size ≤ W4.heap.size := (by have := HOR1.out; have := sz_W6.out; have := sz_w7.out; have := sz_w8.out; have := sz_w9.out; omega)
      refine OwnG.mono (B := W4.heap.size) ?_ hB.2
      repeat (first | (with_reducible refine OwnG.drewC ?_) | (with_reducible refine OwnG.grown ?_ (grown_cellG _ _ _ _) ?_; rotate_left; (focus (exact OwnG.ne_ofC oQ_w9.out (by omega)))))
      with_reducible exact oQ_w9.out
    · exact ne5.out
    · repeat (first | (with_reducible refine Below.drew ?_) | (with_reducible refine Below.setCell ?_ ?_ _; rotate_left; (focus (first | (simp; done) | (simp; omega) | (dsimp only; have := HOR1.out; have := sz_W6.out; have := sz_w7.out; have := sz_w8.out; have := sz_w9.out; omega)))))
      exact acc_w9.out
  have e5 : ((nb : Int) == 60) = false := by simp; omega
  have H5 : Hid (¬ bs.length = 60) := hidP (by have := HN.out.2; omega)
  clear h5
  obtain ⟨⟨_, h60⟩, hA, hSt⟩ := plan_bs H1.out
  have h60' : nb ≤ 60 := by have := HN.out.2; omega
  obtain ⟨F, B, hV, hC⟩ := frs_ex bits zs
  have HFi : Hid (cvFF pt (fil bs pt) bits zs) := hidP (HFF.out H2.out h60)
  unfold cvFF at HFi
  rw [hV] at HFi
  unfold cvPG at HFi
  have HC := hidP hC
  have HB9 := hidP (fun W h' => blocksIn_any pt a5 np c5 b5 nb d5 bs W HN.out.2 (oQ_w9.out.row.later h') (by omega))
  have hAp := apart_of hSt
  have hBw : ∀ q ∈ bs, bitW q.p := fun q hq => bit_of (hA q hq)
  have HBy := hidP (fun W b d e2 => byPrefix_any b nb d bs W HN.out.2 e2 (by omega) hBw hAp)
  have HAS := hidP (And.intro hA (And.intro hSt (And.intro hAp hBw)))
  clear hA hSt hAp hBw h60 hV hC
  obtain ⟨pp, oo, q', hpa, hpp, hq', _, _, _, _, hbc⟩ := rowPl oP_w9.out.row j (by have := HN.out.1; omega)
  have hqq : q = q' := Option.some.inj (HJ.out.1.symm.trans hq')
  subst hqq
  rw [← HJ.out.2] at hbc
  subst hpa
  clear hq'
  go_upto_region 9 with fail
  go_cut [10, 11] (fun t10 t11 X => ∃ p : Nat, t10 = .pointer (some ⟨p, 0, none⟩) ∧ t11 = .bool B ∧ w9.heap.size ≤ p ∧ p < X.heap.size ∧ X.cell? ⟨p, 0, none⟩ = some (.bool F.s) ∧ X.cell? ⟨p, 1, none⟩ = some (.int .i64 F.H.toInt) ∧ X.cell? ⟨p, 2, none⟩ = some (.int .i64 F.L.toInt) ∧ X.cell? ⟨p, 3, none⟩ = some (.int .i64 F.b) ∧ (∀ o, X.frozen? ⟨p, o, none⟩ = false) ∧ Below w9.heap.size w9 X)
  case first => as_aux_lemma =>
    have HSx : Hid (∀ x, Below w9.heap.size w9 x → (x.cell? ⟨w.heap.size, 0, none⟩ = some (.slice (some ⟨pp, oo, none⟩) np c5) ∧ x.cell? ⟨w.heap.size, 1, none⟩ = some (.slice b5 nb d5) ∧ x.cell? ⟨w.heap.size + 1, 0, none⟩ = some (.bool pt.s) ∧ x.cell? ⟨w.heap.size + 1, 1, none⟩ = some (.int .i64 pt.H.toInt) ∧ x.cell? ⟨w.heap.size + 1, 2, none⟩ = some (.int .i64 pt.L.toInt) ∧ x.cell? ⟨w.heap.size + 1, 3, none⟩ = some (.int .i64 pt.b) ∧ x.cell? ⟨pp, oo + j * 5 + 4, none⟩ = some (.int .i64 bits) ∧ Below w9.heap.size w9 x)) := hidP fun x h =>
      ⟨(h.cell pbL_w9).trans pb0_w9, (h.cell pbL_w9).trans pb1_w9, (h.cell atL_w9).trans at0_w9, (h.cell atL_w9).trans at1_w9, (h.cell atL_w9).trans at2_w9, (h.cell atL_w9).trans at3_w9, (h.cell hpp).trans hbc, h⟩
    refine wp_region_held_drew (S := (fun x => x.cell? ⟨w.heap.size, 0, none⟩ = some (.slice (some ⟨pp, oo, none⟩) np c5) ∧ x.cell? ⟨w.heap.size, 1, none⟩ = some (.slice b5 nb d5) ∧ x.cell? ⟨w.heap.size + 1, 0, none⟩ = some (.bool pt.s) ∧ x.cell? ⟨w.heap.size + 1, 1, none⟩ = some (.int .i64 pt.H.toInt) ∧ x.cell? ⟨w.heap.size + 1, 2, none⟩ = some (.int .i64 pt.L.toInt) ∧ x.cell? ⟨w.heap.size + 1, 3, none⟩ = some (.int .i64 pt.b) ∧ x.cell? ⟨pp, oo + j * 5 + 4, none⟩ = some (.int .i64 bits) ∧ Below w9.heap.size w9 x)) (by kernel_rfl) ?_ (fun hHeld => ?_)
    · try dsimp only
      exact HSx.out _ (Below.refl _ _).drew
    refine tk 0 46 rfl ?_
    simp only [pa]
    refine tk 1 47 rfl ?_
    simp only [pa]
    refine tk 2 48 rfl ?_
    simp only [pa]
    refine tk 4 50 rfl ?_
    simp only [pa]
    refine tk 5 51 rfl ?_
    simp only [pa]
    refine tk 6 52 rfl ?_
    simp only [pa]
    refine tk 7 53 rfl ?_
    simp only [pa]
    refine tk 8 54 rfl ?_
    simp only [pa]
    refine tk 9 55 rfl ?_
    simp only [pa]
    refine wpAnyH_ready (rs := [3, 14]) (by kernel_rfl) (by simp) ?_
    refine AllReadyH.cons rfl (fun K hK => ?_) (AllReadyH.cons rfl (fun K hK => ?_) AllReadyH.nil)
    · go_simp
      go_wp2_with (first | (go_at_call 37; refine (HB9.out _ (hHeld.2.2.2.2.2.2.2)).mono ?_; rintro e w20 ⟨a20, c20, rfl, o20, hb20⟩; have b20 := (hHeld.2.2.2.2.2.2.2).trans (hb20.mono (hHeld.2.2.2.2.2.2.2).size)))
      refine hK.out _ _ ?_ (fun hHeld => ?_)
      · try dsimp only
        exact HSx.out _ b20
      clear hK K
      refine wpAnyH_ready (rs := [10, 14]) (by kernel_rfl) (by simp) ?_
      refine AllReadyH.cons rfl (fun K hK => ?_) (AllReadyH.cons rfl (fun K hK => ?_) AllReadyH.nil)
      · go_simp
        go_wp2_with (first | (go_at_call 36; refine (HFi.out a20 c20 _ o20.row).mono ?_; rintro e w21 ⟨rfl, hb21⟩; have b21 := (hHeld.2.2.2.2.2.2.2).trans (hb21.mono (hHeld.2.2.2.2.2.2.2).size)))
        refine hK.out _ _ ?_ (fun hHeld => ?_)
        · try dsimp only
          exact HSx.out _ b21
        clear hK K
        refine tk 11 45 rfl ?_
        simp only [pa]
        refine tk 12 57 rfl ?_
        simp only [pa]
        refine tk 13 58 rfl ?_
        simp only [pa]
        refine wpAnyH_ready (rs := [14]) (by kernel_rfl) (by simp) ?_
        refine AllReadyH.cons rfl (fun K hK => ?_) AllReadyH.nil
        go_simp
        obtain ⟨z22x0, z22x1, z22x2, z22x3⟩ := box4Z w21 31
        have z22F := frz4Z w21 31
        have z22B := alloc_below w21 (.cells #[.bool false, .int .i64 0, .int .i64 0, .int .i64 0] 31)
        have z22L := alloc_ltC w21 (.cells #[.bool false, .int .i64 0, .int .i64 0, .int .i64 0] 31)
        have z22M := (hHeld.2.2.2.2.2.2.2).trans (z22B.mono (hHeld.2.2.2.2.2.2.2).size)
        generalize w21.alloc (.cells #[.bool false, .int .i64 0, .int .i64 0, .int .i64 0] 31) = w22 at *
        refine hK.out _ _ ?_ (fun hHeld => ?_)
        · try dsimp only
          exact HSx.out _ z22M
        clear hK K
        have bl22 : w9.heap.size ≤ w21.heap.size := b21.size
        refine wpAnyH_ready (rs := [15]) (by kernel_rfl) (by simp) ?_
        refine AllReadyH.cons rfl (fun K hK => ?_) AllReadyH.nil
        go_simp
        refine hK.out _ _ ?_ (fun hHeld => ?_)
        · try dsimp only
          refine HSx.out _ ?_
          repeat (with_reducible refine Below.setCell ?_ ?_ _; rotate_left; (focus (exact (bl22))))
          exact (hHeld.2.2.2.2.2.2.2)
        clear hK K
        refine tk 16 11 rfl ?_
        simp only [pa]
        have HE := hidP (hHeld.2.2.2.2.2.2.2)
        refine wpAnyH_done (by kernel_rfl) ?_ _
        clear hHeld
        go_wp2_with fail
        go_meet
        refine ⟨_, rfl, rfl, bl22, ?_, ?_, ?_, ?_, ?_, ?_, HE.out⟩
        · simp; exact z22L
        iterate 4 (· simp [go_sem, z22x0, z22x1, z22x2, z22x3])
        · intro o; simp [go_sem, z22F o]
      · go_simp
        obtain ⟨z21x0, z21x1, z21x2, z21x3⟩ := box4Z w20 31
        have z21F := frz4Z w20 31
        have z21B := alloc_below w20 (.cells #[.bool false, .int .i64 0, .int .i64 0, .int .i64 0] 31)
        have z21L := alloc_ltC w20 (.cells #[.bool false, .int .i64 0, .int .i64 0, .int .i64 0] 31)
        have z21M := (hHeld.2.2.2.2.2.2.2).trans (z21B.mono (hHeld.2.2.2.2.2.2.2).size)
        generalize w20.alloc (.cells #[.bool false, .int .i64 0, .int .i64 0, .int .i64 0] 31) = w21 at *
        refine hK.out _ _ ?_ (fun hHeld => ?_)
        · try dsimp only
          exact HSx.out _ z21M
        clear hK K
        have bl21 : w9.heap.size ≤ w20.heap.size := b20.size
        refine wpAnyH_ready (rs := [10]) (by kernel_rfl) (by simp) ?_
        refine AllReadyH.cons rfl (fun K hK => ?_) AllReadyH.nil
        go_simp
        go_wp2_with (first | (go_at_call 36; refine (HFi.out a20 c20 _ (Row.later o20.row z21B)).mono ?_; rintro e w22 ⟨rfl, hb22⟩; have b22 := (hHeld.2.2.2.2.2.2.2).trans (hb22.mono (hHeld.2.2.2.2.2.2.2).size)))
        refine hK.out _ _ ?_ (fun hHeld => ?_)
        · try dsimp only
          exact HSx.out _ b22
        clear hK K
        have z22x0 := (hb22.cell z21L).trans z21x0
        have z22x1 := (hb22.cell z21L).trans z21x1
        have z22x2 := (hb22.cell z21L).trans z21x2
        have z22x3 := (hb22.cell z21L).trans z21x3
        have z22F : ∀ o, w22.frozen? ⟨w20.heap.size, o, none⟩ = false := fun o => (hb22.frozen z21L).trans (z21F o)
        have z22L : w20.heap.size < w22.heap.size := Nat.lt_of_lt_of_le z21L hb22.size
        clear z21x0 z21x1 z21x2 z21x3 z21F
        refine tk 11 45 rfl ?_
        simp only [pa]
        refine tk 12 57 rfl ?_
        simp only [pa]
        refine tk 13 58 rfl ?_
        simp only [pa]
        refine wpAnyH_ready (rs := [15]) (by kernel_rfl) (by simp) ?_
        refine AllReadyH.cons rfl (fun K hK => ?_) AllReadyH.nil
        go_simp
        refine hK.out _ _ ?_ (fun hHeld => ?_)
        · try dsimp only
          refine HSx.out _ ?_
          repeat (with_reducible refine Below.setCell ?_ ?_ _; rotate_left; (focus (exact (bl21))))
          exact (hHeld.2.2.2.2.2.2.2)
        clear hK K
        refine tk 16 11 rfl ?_
        simp only [pa]
        have HE := hidP (hHeld.2.2.2.2.2.2.2)
        refine wpAnyH_done (by kernel_rfl) ?_ _
        clear hHeld
        go_wp2_with fail
        go_meet
        refine ⟨_, rfl, rfl, bl21, ?_, ?_, ?_, ?_, ?_, ?_, HE.out⟩
        · simp; exact z22L
        iterate 4 (· simp [go_sem, z22x0, z22x1, z22x2, z22x3])
        · intro o; simp [go_sem, z22F o]
    · go_simp
      obtain ⟨z20x0, z20x1, z20x2, z20x3⟩ := box4Z w9 31
      have z20F := frz4Z w9 31
      have z20B := alloc_below w9 (.cells #[.bool false, .int .i64 0, .int .i64 0, .int .i64 0] 31)
      have z20L := alloc_ltC w9 (.cells #[.bool false, .int .i64 0, .int .i64 0, .int .i64 0] 31)
      have z20x0 := (drew_cellC (w9.alloc (.cells #[.bool false, .int .i64 0, .int .i64 0, .int .i64 0] 31)) _).trans z20x0
      have z20x1 := (drew_cellC (w9.alloc (.cells #[.bool false, .int .i64 0, .int .i64 0, .int .i64 0] 31)) _).trans z20x1
      have z20x2 := (drew_cellC (w9.alloc (.cells #[.bool false, .int .i64 0, .int .i64 0, .int .i64 0] 31)) _).trans z20x2
      have z20x3 := (drew_cellC (w9.alloc (.cells #[.bool false, .int .i64 0, .int .i64 0, .int .i64 0] 31)) _).trans z20x3
      have z20F := fun o => (drew_frozenC (w9.alloc (.cells #[.bool false, .int .i64 0, .int .i64 0, .int .i64 0] 31)) _).trans (z20F o)
      have z20L := drew_ltC z20L
      have z20M := z20B.drew
      generalize (w9.alloc (.cells #[.bool false, .int .i64 0, .int .i64 0, .int .i64 0] 31)).drew = w20 at *
      refine hK.out _ _ ?_ (fun hHeld => ?_)
      · try dsimp only
        exact HSx.out _ z20M
      clear hK K
      have bl20 : w9.heap.size ≤ w9.heap.size := Nat.le_refl _
      refine wpAnyH_ready (rs := [3]) (by kernel_rfl) (by simp) ?_
      refine AllReadyH.cons rfl (fun K hK => ?_) AllReadyH.nil
      go_simp
      go_wp2_with (first | (go_at_call 37; refine (HB9.out _ (hHeld.2.2.2.2.2.2.2)).mono ?_; rintro e w21 ⟨a21, c21, rfl, o21, hb21⟩; have b21 := (hHeld.2.2.2.2.2.2.2).trans (hb21.mono (hHeld.2.2.2.2.2.2.2).size)))
      refine hK.out _ _ ?_ (fun hHeld => ?_)
      · try dsimp only
        exact HSx.out _ b21
      clear hK K
      have z21x0 := (hb21.cell z20L).trans z20x0
      have z21x1 := (hb21.cell z20L).trans z20x1
      have z21x2 := (hb21.cell z20L).trans z20x2
      have z21x3 := (hb21.cell z20L).trans z20x3
      have z21F : ∀ o, w21.frozen? ⟨w9.heap.size, o, none⟩ = false := fun o => (hb21.frozen z20L).trans (z20F o)
      have z21L : w9.heap.size < w21.heap.size := Nat.lt_of_lt_of_le z20L hb21.size
      clear z20x0 z20x1 z20x2 z20x3 z20F
      refine wpAnyH_ready (rs := [10]) (by kernel_rfl) (by simp) ?_
      refine AllReadyH.cons rfl (fun K hK => ?_) AllReadyH.nil
      go_simp
      go_wp2_with (first | (go_at_call 36; refine (HFi.out a21 c21 _ o21.row).mono ?_; rintro e w22 ⟨rfl, hb22⟩; have b22 := (hHeld.2.2.2.2.2.2.2).trans (hb22.mono (hHeld.2.2.2.2.2.2.2).size)))
      refine hK.out _ _ ?_ (fun hHeld => ?_)
      · try dsimp only
        exact HSx.out _ b22
      clear hK K
      have z22x0 := (hb22.cell z21L).trans z21x0
      have z22x1 := (hb22.cell z21L).trans z21x1
      have z22x2 := (hb22.cell z21L).trans z21x2
      have z22x3 := (hb22.cell z21L).trans z21x3
      have z22F : ∀ o, w22.frozen? ⟨w9.heap.size, o, none⟩ = false := fun o => (hb22.frozen z21L).trans (z21F o)
      have z22L : w9.heap.size < w22.heap.size := Nat.lt_of_lt_of_le z21L hb22.size
      clear z21x0 z21x1 z21x2 z21x3 z21F
      refine tk 11 45 rfl ?_
      simp only [pa]
      refine tk 12 57 rfl ?_
      simp only [pa]
      refine tk 13 58 rfl ?_
      simp only [pa]
      refine wpAnyH_ready (rs := [15]) (by kernel_rfl) (by simp) ?_
      refine AllReadyH.cons rfl (fun K hK => ?_) AllReadyH.nil
      go_simp
      refine hK.out _ _ ?_ (fun hHeld => ?_)
      · try dsimp only
        refine HSx.out _ ?_
        repeat (with_reducible refine Below.setCell ?_ ?_ _; rotate_left; (focus (exact (bl20))))
        exact (hHeld.2.2.2.2.2.2.2)
      clear hK K
      refine tk 16 11 rfl ?_
      simp only [pa]
      have HE := hidP (hHeld.2.2.2.2.2.2.2)
      refine wpAnyH_done (by kernel_rfl) ?_ _
      clear hHeld
      go_wp2_with fail
      go_meet
      refine ⟨_, rfl, rfl, bl20, ?_, ?_, ?_, ?_, ?_, ?_, HE.out⟩
      · simp; exact z22L
      iterate 4 (· simp [go_sem, z22x0, z22x1, z22x2, z22x3])
      · intro o; simp [go_sem, z22F o]
  case rest =>
    obtain ⟨pX, rfl, rfl, hpX, fbL_wc, fb0_wc, fb1_wc, fb2_wc, fb3_wc, fbF_wc, hX⟩ := hcut
    have HPX : Hid (w9.heap.size ≤ pX) := hidP hpX
    have rsP_wc := hidP (rsP_w9.out.later hX)
    have rpP_wc := hidP (rpP_w9.out.later hX)
    clear rsP_w9 rpP_w9
    have pb0_wc := (hX.cell pbL_w9).trans pb0_w9
    have pb1_wc := (hX.cell pbL_w9).trans pb1_w9
    have pbF_wc : ∀ o, wc.frozen? ⟨w.heap.size, o, none⟩ = false := fun o => (hX.frozen pbL_w9).trans (pbF_w9 o)
    have pbL_wc : w.heap.size < wc.heap.size := Nat.lt_of_lt_of_le pbL_w9 hX.size
    have at0_wc := (hX.cell atL_w9).trans at0_w9
    have at1_wc := (hX.cell atL_w9).trans at1_w9
    have at2_wc := (hX.cell atL_w9).trans at2_w9
    have at3_wc := (hX.cell atL_w9).trans at3_w9
    have atF_wc : ∀ o, wc.frozen? ⟨w.heap.size + 1, o, none⟩ = false := fun o => (hX.frozen atL_w9).trans (atF_w9 o)
    have atL_wc : w.heap.size + 1 < wc.heap.size := Nat.lt_of_lt_of_le atL_w9 hX.size
    have oP_wc := hidP (OwnG.later oP_w9.out hX)
    have oQ_wc := hidP (OwnG.later oQ_w9.out hX)
    have acc_wc := hidP (acc_w9.out.trans (hX.mono acc_w9.out.size))
    have sz_wc : Hid (w9.heap.size ≤ wc.heap.size) := hidP hX.size
    clear hX pb0_w9 pb1_w9 pbF_w9 pbL_w9 at0_w9 at1_w9 at2_w9 at3_w9 atF_w9 atL_w9 oP_w9 oQ_w9 acc_w9
    clear hpX
    clear hbc hpp
    cases B
    · have hz : zs = [] := by rcases HC.out with ⟨_, h⟩ | ⟨h, _⟩; exact h; cases h
      subst hz
      have rs0_wc := rsP_wc.out.1 0 _ rfl
      have rs1_wc := rsP_wc.out.1 1 _ rfl
      have rsF_wc := rsP_wc.out.2.1
      have rsL_wc := rsP_wc.out.2.2
      clear rsP_wc
      have rp0_wc := rpP_wc.out.1 0 _ rfl
      have rp1_wc := rpP_wc.out.1 1 _ rfl
      have rp2_wc := rpP_wc.out.1 2 _ rfl
      have rp3_wc := rpP_wc.out.1 3 _ rfl
      have rpF_wc := rpP_wc.out.2.1
      have rpL_wc := rpP_wc.out.2.2
      clear rpP_wc
      go_wp2_with fail
      have eO := HO.out.trans (cv6 H1.out H2.out H3.out (by have := H4.out; omega) H5.out)
      subst eO
      refine bodyPost_ret (v := .tuple #[.agg #[.slice (some ⟨pp, oo, none⟩) np c5, .slice b5 nb d5], .agg #[.bool false, .int .i64 0, .int .i64 0, .int .i64 0], .int .i64 5]) (by simp [results, Tryz.results8, go_sem, rs0_wc, rs1_wc, rp0_wc, rp1_wc, rp2_wc, rp3_wc]) rfl ⟨_, _, _, _, _, rfl, ?_, ?_, ?_, ?_, ?_⟩
      · exact HN.out.2
      · have hB : w.heap.size + 1 + 1 + 1 < W4.heap.size ∧ w.heap.size ≤ W4.heap.size := (by have := HOR1.out; have := sz_W6.out; have := sz_w7.out; have := sz_w8.out; have := sz_w9.out; have := sz_wc.out; have := HPX.out; omega)
        refine OwnG.mono (B := W4.heap.size) ?_ hB.2
        repeat (first | (with_reducible refine OwnG.drewC ?_) | (with_reducible refine OwnG.grown ?_ (grown_cellG _ _ _ _) ?_; rotate_left; (focus (exact OwnG.ne_ofC oP_wc.out (by omega)))))
        with_reducible exact oP_wc.out
      · have hB : w.heap.size + 1 + 1 + 1 < W4.heap.size ∧ w.heap.size ≤ W4.heap.size := (by have := HOR1.out; have := sz_W6.out; have := sz_w7.out; have := sz_w8.out; have := sz_w9.out; have := sz_wc.out; have := HPX.out; omega)
        refine OwnG.mono (B := W4.heap.size) ?_ hB.2
        repeat (first | (with_reducible refine OwnG.drewC ?_) | (with_reducible refine OwnG.grown ?_ (grown_cellG _ _ _ _) ?_; rotate_left; (focus (exact OwnG.ne_ofC oQ_wc.out (by omega)))))
        with_reducible exact oQ_wc.out
      · exact ne5.out
      · repeat (first | (with_reducible refine Below.drew ?_) | (with_reducible refine Below.setCell ?_ ?_ _; rotate_left; (focus (first | (simp; done) | (simp; omega) | (dsimp only; have := HOR1.out; have := sz_W6.out; have := sz_w7.out; have := sz_w8.out; have := sz_w9.out; have := sz_wc.out; have := HPX.out; omega)))))
        exact acc_wc.out
    obtain ⟨z, r, hz, hF⟩ : ∃ z r, zs = z :: r ∧ F = ⟨z.s, z.H, z.L, bits⟩ := by rcases HC.out with ⟨h, _⟩ | ⟨_, h⟩; cases h; exact h
    obtain ⟨kF, wF, oF⟩ := HFz.out z r hz
    have eO := HO.out.trans (show cvO ps bs pt ow bits zs = ⟨insB ⟨F, ow⟩ bs, F, 0⟩ by rw [hz, hF]; exact cv7 H1.out H2.out H3.out (by have := H4.out; omega) H5.out)
    rw [← hF] at kF wF oF
    have hnw := fil_new wF oF
    have hBt := bit_of kF
    have hkey := keyOf_pf hBt
    unfold pfV at hkey
    have hrd := rdB_mk ⟨F, ow⟩
    unfold bkV at hrd
    have hS := ins_sorted ⟨F, ow⟩ bs HAS.out.2.1 hnw
    have hpr : bs.Perm bs := List.Perm.refl _
    have hd2 : (bs ++ [(⟨F, ow⟩ : Bk)]).Pairwise (fun q r => q.p ≠ r.p) := List.pairwise_append.2 ⟨HAS.out.2.2.1, List.pairwise_singleton .., fun x hx y hy => by simp at hy; subst hy; exact hnw x hx⟩
    have hA2 : ∀ y ∈ bs ++ [(⟨F, ow⟩ : Bk)], y.p.pk = true := fun y hy => by rcases List.mem_append.1 hy with h | h; exact HAS.out.1 y h; simp at h; subst h; exact kF
    have HRi := hidP (fun W b D hH => rising_any b (nb + 1) D _ hH hd2 hA2 (by omega) W)
    have HU := hidP (fun R hp hs => ins_one ⟨F, ow⟩ bs R HAS.out.2.1 hnw hp hs)
    have HPu := hidP (And.intro hBt hnw)
    have HEO := hidP eO
    clear hS hpr hd2 hA2 hBt hnw eO kF wF oF hz hF
    have HLP : Hid (∀ k, (Value.slice (some ⟨pp, oo, none⟩) np c5).ownBlock = some k → k < wc.heap.size) := hidP (fun k hk => (OwnG.lt oP_wc.out k hk).2)
    have pbL_wc9 := hidP pbL_wc
    have atL_wc9 := hidP atL_wc
    have fbL_wc9 := hidP fbL_wc
    have rsL_wc9 := hidP rsP_wc.out.2.2
    have rpL_wc9 := hidP rpP_wc.out.2.2
    go_wp2_with fail
    refine (HBy.out _ b5 d5 oQ_wc.out.row).mono ?_
    rintro e wy ⟨rfl, ⟨D, hm, hH⟩, hb10⟩
    have HM := hidP (And.intro hm hH)
    have lm := hm.lt
    have HLm := hidP lm
    clear hm hH lm
    have rsP_wy := hidP (rsP_wc.out.later hb10)
    have rpP_wy := hidP (rpP_wc.out.later hb10)
    clear rsP_wc rpP_wc
    have pb0_wy := (hb10.cell pbL_wc).trans pb0_wc
    have pb1_wy := (hb10.cell pbL_wc).trans pb1_wc
    have pbF_wy : ∀ o, wy.frozen? ⟨w.heap.size, o, none⟩ = false := fun o => (hb10.frozen pbL_wc).trans (pbF_wc o)
    have pbL_wy : w.heap.size < wy.heap.size := Nat.lt_of_lt_of_le pbL_wc hb10.size
    have at0_wy := (hb10.cell atL_wc).trans at0_wc
    have at1_wy := (hb10.cell atL_wc).trans at1_wc
    have at2_wy := (hb10.cell atL_wc).trans at2_wc
    have at3_wy := (hb10.cell atL_wc).trans at3_wc
    have atF_wy : ∀ o, wy.frozen? ⟨w.heap.size + 1, o, none⟩ = false := fun o => (hb10.frozen atL_wc).trans (atF_wc o)
    have atL_wy : w.heap.size + 1 < wy.heap.size := Nat.lt_of_lt_of_le atL_wc hb10.size
    have fb0_wy := (hb10.cell fbL_wc).trans fb0_wc
    have fb1_wy := (hb10.cell fbL_wc).trans fb1_wc
    have fb2_wy := (hb10.cell fbL_wc).trans fb2_wc
    have fb3_wy := (hb10.cell fbL_wc).trans fb3_wc
    have fbF_wy : ∀ o, wy.frozen? ⟨pX, o, none⟩ = false := fun o => (hb10.frozen fbL_wc).trans (fbF_wc o)
    have fbL_wy : pX < wy.heap.size := Nat.lt_of_lt_of_le fbL_wc hb10.size
    have oP_wy := hidP (OwnG.later oP_wc.out hb10)
    have oQ_wy := hidP (OwnG.later oQ_wc.out hb10)
    have acc_wy := hidP (acc_wc.out.trans (hb10.mono acc_wc.out.size))
    have sz_wy : Hid (wc.heap.size ≤ wy.heap.size) := hidP hb10.size
    clear hb10 pb0_wc pb1_wc pbF_wc pbL_wc at0_wc at1_wc at2_wc at3_wc atF_wc atL_wc fb0_wc fb1_wc fb2_wc fb3_wc fbF_wc fbL_wc oP_wc oQ_wc acc_wc
    have HOR2 := hidP (And.intro HOR1.out (And.intro sz_W6.out (And.intro sz_w7.out (And.intro sz_w8.out (And.intro sz_w9.out (And.intro sz_wc.out (And.intro HPX.out sz_wy.out)))))))
    clear HOR1 sz_W6 sz_w7 sz_w8 sz_w9 sz_wc sz_wy
    go_wp2_with (at_mapUpdate; refine wpList_mapUpdate_own _ rfl _ _ _ 80 rfl 31 38 Tryz.keyPf Tryz.underlying80 rdB wc.heap.size nb _ rfl HM.out.1 (by unfold maxLen; omega) _ _ _ rfl rfl hkey _ [] hrd ?_; refine stpC ?_)
    unfold StpC
    intro wA hownA hgA
    have HA := hidP hownA
    have HH := hidP (HM.out.2.put ⟨F, ow⟩ HPu.out.1 HPu.out.2)
    have gepb := hgA.block (w.heap.size) pbL_wy (fun e => by have h6 := Option.some.inj e; have := HOR2.out; have := HLm.out; have := pbL_wc9.out; omega)
    have pb0_wA := (World.cell?_of_block gepb).trans pb0_wy
    have pb1_wA := (World.cell?_of_block gepb).trans pb1_wy
    have pbF_wA : ∀ o, wA.frozen? ⟨w.heap.size, o, none⟩ = false := fun o => (World.frozen?_of_block gepb).trans (pbF_wy o)
    have pbL_wA : w.heap.size < wA.heap.size := Nat.lt_of_lt_of_le pbL_wy hgA.size
    have geat := hgA.block (w.heap.size + 1) atL_wy (fun e => by have h6 := Option.some.inj e; have := HOR2.out; have := HLm.out; have := atL_wc9.out; omega)
    have at0_wA := (World.cell?_of_block geat).trans at0_wy
    have at1_wA := (World.cell?_of_block geat).trans at1_wy
    have at2_wA := (World.cell?_of_block geat).trans at2_wy
    have at3_wA := (World.cell?_of_block geat).trans at3_wy
    have atF_wA : ∀ o, wA.frozen? ⟨w.heap.size + 1, o, none⟩ = false := fun o => (World.frozen?_of_block geat).trans (atF_wy o)
    have atL_wA : w.heap.size + 1 < wA.heap.size := Nat.lt_of_lt_of_le atL_wy hgA.size
    have gefb := hgA.block (pX) fbL_wy (fun e => by have h6 := Option.some.inj e; have := HOR2.out; have := HLm.out; have := fbL_wc9.out; omega)
    have fb0_wA := (World.cell?_of_block gefb).trans fb0_wy
    have fb1_wA := (World.cell?_of_block gefb).trans fb1_wy
    have fb2_wA := (World.cell?_of_block gefb).trans fb2_wy
    have fb3_wA := (World.cell?_of_block gefb).trans fb3_wy
    have fbF_wA : ∀ o, wA.frozen? ⟨pX, o, none⟩ = false := fun o => (World.frozen?_of_block gefb).trans (fbF_wy o)
    have fbL_wA : pX < wA.heap.size := Nat.lt_of_lt_of_le fbL_wy hgA.size
    have rsP_wA := hidP (rsP_wy.out.blk hgA (fun e => by have h6 := Option.some.inj e; have := HOR2.out; have := HLm.out; have := rsL_wc9.out; omega))
    have rpP_wA := hidP (rpP_wy.out.blk hgA (fun e => by have h6 := Option.some.inj e; have := HOR2.out; have := HLm.out; have := rpL_wc9.out; omega))
    have oP_wA := hidP (OwnG.grown oP_wy.out hgA (fun k hk e => by have := HLP.out k hk; have h6 := Option.some.inj e; omega))
    have acc_wA := hidP (acc_wy.out.grown hgA acc_wy.out.size (fun k e => by have h6 := Option.some.inj e; have := HOR2.out; have := HLm.out; omega))
    have sz_wA : Hid (wy.heap.size ≤ wA.heap.size) := hidP hgA.size
    clear hgA hownA HM oP_wy oQ_wy acc_wy pb0_wy pb1_wy pbF_wy pbL_wy gepb at0_wy at1_wy at2_wy at3_wy atF_wy atL_wy geat fb0_wy fb1_wy fb2_wy fb3_wy fbF_wy fbL_wy gefb rsP_wy rpP_wy
    go_wp2_with fail
    refine (HRi.out wA wc.heap.size _ HH.out HA.out).mono ?_
    rintro e wB ⟨aB, nB, cB, ys, rfl, hn, hp, hs, ho', hbB⟩
    have hys := HU.out ys hp hs
    subst hys
    have OY := hidP ho'
    have HNb := hidP hn
    clear hp hs ho' hn HA HH
    have rsP_wB := hidP (rsP_wA.out.later hbB)
    have rpP_wB := hidP (rpP_wA.out.later hbB)
    clear rsP_wA rpP_wA
    have pb0_wB := (hbB.cell pbL_wA).trans pb0_wA
    have pb1_wB := (hbB.cell pbL_wA).trans pb1_wA
    have pbF_wB : ∀ o, wB.frozen? ⟨w.heap.size, o, none⟩ = false := fun o => (hbB.frozen pbL_wA).trans (pbF_wA o)
    have pbL_wB : w.heap.size < wB.heap.size := Nat.lt_of_lt_of_le pbL_wA hbB.size
    have at0_wB := (hbB.cell atL_wA).trans at0_wA
    have at1_wB := (hbB.cell atL_wA).trans at1_wA
    have at2_wB := (hbB.cell atL_wA).trans at2_wA
    have at3_wB := (hbB.cell atL_wA).trans at3_wA
    have atF_wB : ∀ o, wB.frozen? ⟨w.heap.size + 1, o, none⟩ = false := fun o => (hbB.frozen atL_wA).trans (atF_wA o)
    have atL_wB : w.heap.size + 1 < wB.heap.size := Nat.lt_of_lt_of_le atL_wA hbB.size
    have fb0_wB := (hbB.cell fbL_wA).trans fb0_wA
    have fb1_wB := (hbB.cell fbL_wA).trans fb1_wA
    have fb2_wB := (hbB.cell fbL_wA).trans fb2_wA
    have fb3_wB := (hbB.cell fbL_wA).trans fb3_wA
    have fbF_wB : ∀ o, wB.frozen? ⟨pX, o, none⟩ = false := fun o => (hbB.frozen fbL_wA).trans (fbF_wA o)
    have fbL_wB : pX < wB.heap.size := Nat.lt_of_lt_of_le fbL_wA hbB.size
    have oP_wB := hidP (OwnG.later oP_wA.out hbB)
    have acc_wB := hidP (acc_wA.out.trans (hbB.mono acc_wA.out.size))
    have sz_wB : Hid (wA.heap.size ≤ wB.heap.size) := hidP hbB.size
    clear hbB pb0_wA pb1_wA pbF_wA pbL_wA at0_wA at1_wA at2_wA at3_wA atF_wA atL_wA fb0_wA fb1_wA fb2_wA fb3_wA fbF_wA fbL_wA oP_wA acc_wA
    have oY_wB := hidP (OY.out)
    have lhY : Hid (∀ k, (Value.slice aB nB cB).ownBlock = some k → wA.heap.size ≤ k ∧ k < wB.heap.size) := hidP (fun k hk => OwnG.lt oY_wB.out k hk)
    clear OY
    go_wp2_with fail
    have nxat : w.heap.size + 1 ≠ w.heap.size := (by have := HOR2.out; have := HLm.out; have := sz_wA.out; have := sz_wB.out; omega)
    have nxfb : pX ≠ w.heap.size := (by have := HOR2.out; have := HLm.out; have := sz_wA.out; have := sz_wB.out; omega)
    have ryP : ∀ k, (Value.slice (some ⟨pp, oo, none⟩) np c5).ownBlock = some k → some (w.heap.size) ≠ some k := (fun k hk e => by have h5 := lhP.out k hk; have h6 := Option.some.inj e; have := HOR2.out; have := HLm.out; have := sz_wA.out; have := sz_wB.out; omega)
    have ryY : ∀ k, (Value.slice aB nB cB).ownBlock = some k → some (w.heap.size) ≠ some k := (fun k hk e => by have h5 := lhY.out k hk; have h6 := Option.some.inj e; have := HOR2.out; have := HLm.out; have := sz_wA.out; have := sz_wB.out; omega)
    have lw : w.heap.size ≤ w.heap.size := (by have := HOR2.out; have := HLm.out; have := sz_wA.out; have := sz_wB.out; omega)
    have nxrs : w.heap.size + 1 + 1 ≠ w.heap.size := (by have := HOR2.out; have := HLm.out; have := sz_wA.out; have := sz_wB.out; omega)
    have nxrp : w.heap.size + 1 + 1 + 1 ≠ w.heap.size := (by have := HOR2.out; have := HLm.out; have := sz_wA.out; have := sz_wB.out; omega)
    generalize hWn : wB.setCell ⟨w.heap.size, 1, none⟩ (.slice aB nB cB) = WD at *
    have pb0_WD : WD.cell? ⟨w.heap.size, 0, none⟩ = some (.slice (some ⟨pp, oo, none⟩) np c5) := by rw [← hWn]; simp [go_sem, pb0_wB]
    have pb1_WD : WD.cell? ⟨w.heap.size, 1, none⟩ = some (.slice aB nB cB) := by rw [← hWn]; simp [go_sem, pb1_wB]
    have pbF_WD : ∀ o, WD.frozen? ⟨w.heap.size, o, none⟩ = false := fun o => by rw [← hWn]; exact (frzC (pbF_wB o))
    have pbL_WD : w.heap.size < WD.heap.size := by rw [← hWn]; simpa using pbL_wB
    have at0_WD : WD.cell? ⟨w.heap.size + 1, 0, none⟩ = some (.bool pt.s) := by rw [← hWn]; exact (cellC at0_wB nxat)
    have at1_WD : WD.cell? ⟨w.heap.size + 1, 1, none⟩ = some (.int .i64 pt.H.toInt) := by rw [← hWn]; exact (cellC at1_wB nxat)
    have at2_WD : WD.cell? ⟨w.heap.size + 1, 2, none⟩ = some (.int .i64 pt.L.toInt) := by rw [← hWn]; exact (cellC at2_wB nxat)
    have at3_WD : WD.cell? ⟨w.heap.size + 1, 3, none⟩ = some (.int .i64 pt.b) := by rw [← hWn]; exact (cellC at3_wB nxat)
    have atF_WD : ∀ o, WD.frozen? ⟨w.heap.size + 1, o, none⟩ = false := fun o => by rw [← hWn]; exact (frzC (atF_wB o))
    have atL_WD : w.heap.size + 1 < WD.heap.size := by rw [← hWn]; simpa using atL_wB
    have fb0_WD : WD.cell? ⟨pX, 0, none⟩ = some (.bool F.s) := by rw [← hWn]; exact (cellC fb0_wB nxfb)
    have fb1_WD : WD.cell? ⟨pX, 1, none⟩ = some (.int .i64 F.H.toInt) := by rw [← hWn]; exact (cellC fb1_wB nxfb)
    have fb2_WD : WD.cell? ⟨pX, 2, none⟩ = some (.int .i64 F.L.toInt) := by rw [← hWn]; exact (cellC fb2_wB nxfb)
    have fb3_WD : WD.cell? ⟨pX, 3, none⟩ = some (.int .i64 F.b) := by rw [← hWn]; exact (cellC fb3_wB nxfb)
    have fbF_WD : ∀ o, WD.frozen? ⟨pX, o, none⟩ = false := fun o => by rw [← hWn]; exact (frzC (fbF_wB o))
    have fbL_WD : pX < WD.heap.size := by rw [← hWn]; simpa using fbL_wB
    have rsP_WD : Hid (BxK WD (w.heap.size + 1 + 1) [.slice none 0 0, .slice none 0 0]) := hidP (by rw [← hWn]; exact (rsP_wB.out.set nxrs))
    have rpP_WD : Hid (BxK WD (w.heap.size + 1 + 1 + 1) [.bool false, .int .i64 0, .int .i64 0, .int .i64 0]) := hidP (by rw [← hWn]; exact (rpP_wB.out.set nxrp))
    have oP_WD : Hid (OwnG KPl 46 WD (W4.heap.size) (.slice (some ⟨pp, oo, none⟩) np c5) (ps)) := hidP (by rw [← hWn]; exact (OwnG.grown oP_wB.out (grown_cellG _ _ _ _) ryP))
    have oY_WD : Hid (OwnG KBk 38 WD (wA.heap.size) (.slice aB nB cB) (insB ⟨F, ow⟩ bs)) := hidP (by rw [← hWn]; exact (OwnG.grown oY_wB.out (grown_cellG _ _ _ _) ryY))
    have acc_WD : Hid (Below w.heap.size w WD) := hidP (by rw [← hWn]; exact (Below.setCell acc_wB.out lw _))
    have sz_WD : Hid (WD.heap.size = wB.heap.size) := hidP (by rw [← hWn]; simp)
    clear hWn nxat nxfb ryP ryY lw pb0_wB pb1_wB pbF_wB pbL_wB at0_wB at1_wB at2_wB at3_wB atF_wB atL_wB fb0_wB fb1_wB fb2_wB fb3_wB fbF_wB fbL_wB nxrs rsP_wB nxrp rpP_wB oP_wB oY_wB acc_wB
    have NE9 : Hid (∀ k, (Value.slice (some ⟨pp, oo, none⟩) np c5).ownBlock = some k → (Value.slice aB nB cB).ownBlock ≠ some k) := hidP (fun k h1 h2 => by have e1 := HLP.out k h1; have e2 := lhY.out k h2; have := HOR2.out; have := HLm.out; have := sz_wA.out; have := sz_wB.out; have := sz_WD.out; omega)
    clear at0_WD at1_WD at2_WD at3_WD atF_WD atL_WD
    have rs0_WD := rsP_WD.out.1 0 _ rfl
    have rs1_WD := rsP_WD.out.1 1 _ rfl
    have rsF_WD := rsP_WD.out.2.1
    have rsL_WD := rsP_WD.out.2.2
    clear rsP_WD
    have rp0_WD := rpP_WD.out.1 0 _ rfl
    have rp1_WD := rpP_WD.out.1 1 _ rfl
    have rp2_WD := rpP_WD.out.1 2 _ rfl
    have rp3_WD := rpP_WD.out.1 3 _ rfl
    have rpF_WD := rpP_WD.out.2.1
    have rpL_WD := rpP_WD.out.2.2
    clear rpP_WD
    have hbd := (Below.refl WD.heap.size WD).drew
    refine wp_region_held_drew (S := (fun x => x.cell? ⟨w.heap.size, 0, none⟩ = some (.slice (some ⟨pp, oo, none⟩) np c5) ∧ x.cell? ⟨w.heap.size, 1, none⟩ = some (.slice aB nB cB) ∧ x.cell? ⟨pX, 0, none⟩ = some (.bool F.s) ∧ x.cell? ⟨pX, 1, none⟩ = some (.int .i64 F.H.toInt) ∧ x.cell? ⟨pX, 2, none⟩ = some (.int .i64 F.L.toInt) ∧ x.cell? ⟨pX, 3, none⟩ = some (.int .i64 F.b))) (by kernel_rfl) ?_ (fun hHeld => ?_)
    · try dsimp only
      exact ⟨(hbd.cell pbL_WD).trans pb0_WD, (hbd.cell pbL_WD).trans pb1_WD, (hbd.cell fbL_WD).trans fb0_WD, (hbd.cell fbL_WD).trans fb1_WD, (hbd.cell fbL_WD).trans fb2_WD, (hbd.cell fbL_WD).trans fb3_WD⟩
    generalize WD.drew = V1 at *
    have pb0_V1 := (hbd.cell pbL_WD).trans pb0_WD
    have pb1_V1 := (hbd.cell pbL_WD).trans pb1_WD
    have pbF_V1 : ∀ o, V1.frozen? ⟨w.heap.size, o, none⟩ = false := fun o => (hbd.frozen pbL_WD).trans (pbF_WD o)
    have pbL_V1 : w.heap.size < V1.heap.size := Nat.lt_of_lt_of_le pbL_WD hbd.size
    have fb0_V1 := (hbd.cell fbL_WD).trans fb0_WD
    have fb1_V1 := (hbd.cell fbL_WD).trans fb1_WD
    have fb2_V1 := (hbd.cell fbL_WD).trans fb2_WD
    have fb3_V1 := (hbd.cell fbL_WD).trans fb3_WD
    have fbF_V1 : ∀ o, V1.frozen? ⟨pX, o, none⟩ = false := fun o => (hbd.frozen fbL_WD).trans (fbF_WD o)
    have fbL_V1 : pX < V1.heap.size := Nat.lt_of_lt_of_le fbL_WD hbd.size
    have rs0_V1 := (hbd.cell rsL_WD).trans rs0_WD
    have rs1_V1 := (hbd.cell rsL_WD).trans rs1_WD
    have rsF_V1 : ∀ o, V1.frozen? ⟨w.heap.size + 1 + 1, o, none⟩ = false := fun o => (hbd.frozen rsL_WD).trans (rsF_WD o)
    have rsL_V1 : w.heap.size + 1 + 1 < V1.heap.size := Nat.lt_of_lt_of_le rsL_WD hbd.size
    have rp0_V1 := (hbd.cell rpL_WD).trans rp0_WD
    have rp1_V1 := (hbd.cell rpL_WD).trans rp1_WD
    have rp2_V1 := (hbd.cell rpL_WD).trans rp2_WD
    have rp3_V1 := (hbd.cell rpL_WD).trans rp3_WD
    have rpF_V1 : ∀ o, V1.frozen? ⟨w.heap.size + 1 + 1 + 1, o, none⟩ = false := fun o => (hbd.frozen rpL_WD).trans (rpF_WD o)
    have rpL_V1 : w.heap.size + 1 + 1 + 1 < V1.heap.size := Nat.lt_of_lt_of_le rpL_WD hbd.size
    have oP_V1 := hidP (OwnG.later oP_WD.out hbd)
    have oY_V1 := hidP (OwnG.later oY_WD.out hbd)
    have acc_V1 := hidP (acc_WD.out.trans (hbd.mono acc_WD.out.size))
    have sz_V1 : Hid (WD.heap.size ≤ V1.heap.size) := hidP hbd.size
    clear hbd pb0_WD pb1_WD pbF_WD pbL_WD fb0_WD fb1_WD fb2_WD fb3_WD fbF_WD fbL_WD rs0_WD rs1_WD rsF_WD rsL_WD rp0_WD rp1_WD rp2_WD rp3_WD rpF_WD rpL_WD oP_WD oY_WD acc_WD
    refine tk 0 74 rfl ?_
    simp only [pa]
    refine tk 1 75 rfl ?_
    simp only [pa]
    refine wpAnyH_ready (rs := [2]) (by kernel_rfl) (by simp) ?_
    refine AllReadyH.cons rfl (fun K hK => ?_) AllReadyH.nil
    go_simp
    have nxpb : w.heap.size ≠ w.heap.size + 1 + 1 := (by have := HOR2.out; have := HLm.out; have := sz_wA.out; have := sz_wB.out; have := sz_WD.out; have := sz_V1.out; omega)
    have nxfb : pX ≠ w.heap.size + 1 + 1 := (by have := HOR2.out; have := HLm.out; have := sz_wA.out; have := sz_wB.out; have := sz_WD.out; have := sz_V1.out; omega)
    have nxrp : w.heap.size + 1 + 1 + 1 ≠ w.heap.size + 1 + 1 := (by have := HOR2.out; have := HLm.out; have := sz_wA.out; have := sz_wB.out; have := sz_WD.out; have := sz_V1.out; omega)
    refine hK.out _ _ ?_ (fun hHeld => ?_)
    · try dsimp only
      exact ⟨(cellC (cellC pb0_V1 nxpb) nxpb), (cellC (cellC pb1_V1 nxpb) nxpb), (cellC (cellC fb0_V1 nxfb) nxfb), (cellC (cellC fb1_V1 nxfb) nxfb), (cellC (cellC fb2_V1 nxfb) nxfb), (cellC (cellC fb3_V1 nxfb) nxfb)⟩
    clear hK K
    have ryP : ∀ k, (Value.slice (some ⟨pp, oo, none⟩) np c5).ownBlock = some k → some (w.heap.size + 1 + 1) ≠ some k := (fun k hk e => by have h5 := lhP.out k hk; have h6 := Option.some.inj e; have := HOR2.out; have := HLm.out; have := sz_wA.out; have := sz_wB.out; have := sz_WD.out; have := sz_V1.out; omega)
    have ryY : ∀ k, (Value.slice aB nB cB).ownBlock = some k → some (w.heap.size + 1 + 1) ≠ some k := (fun k hk e => by have h5 := lhY.out k hk; have h6 := Option.some.inj e; have := HOR2.out; have := HLm.out; have := sz_wA.out; have := sz_wB.out; have := sz_WD.out; have := sz_V1.out; omega)
    have lw : w.heap.size ≤ w.heap.size + 1 + 1 := (by have := HOR2.out; have := HLm.out; have := sz_wA.out; have := sz_wB.out; have := sz_WD.out; have := sz_V1.out; omega)
    generalize hWn : (V1.setCell ⟨w.heap.size + 1 + 1, 0, none⟩ (.slice (some ⟨pp, oo, none⟩) np c5)).setCell ⟨w.heap.size + 1 + 1, 1, none⟩ (.slice aB nB cB) = V2 at *
    have rs0_V2 : V2.cell? ⟨w.heap.size + 1 + 1, 0, none⟩ = some (.slice (some ⟨pp, oo, none⟩) np c5) := by rw [← hWn]; simp [go_sem, rs0_V1]
    have rs1_V2 : V2.cell? ⟨w.heap.size + 1 + 1, 1, none⟩ = some (.slice aB nB cB) := by rw [← hWn]; simp [go_sem, rs1_V1]
    have pb0_V2 : V2.cell? ⟨w.heap.size, 0, none⟩ = some (.slice (some ⟨pp, oo, none⟩) np c5) := by rw [← hWn]; exact (cellC (cellC pb0_V1 nxpb) nxpb)
    have pb1_V2 : V2.cell? ⟨w.heap.size, 1, none⟩ = some (.slice aB nB cB) := by rw [← hWn]; exact (cellC (cellC pb1_V1 nxpb) nxpb)
    have pbF_V2 : ∀ o, V2.frozen? ⟨w.heap.size, o, none⟩ = false := fun o => by rw [← hWn]; exact (frzC (frzC (pbF_V1 o)))
    have pbL_V2 : w.heap.size < V2.heap.size := by rw [← hWn]; simpa using pbL_V1
    have fb0_V2 : V2.cell? ⟨pX, 0, none⟩ = some (.bool F.s) := by rw [← hWn]; exact (cellC (cellC fb0_V1 nxfb) nxfb)
    have fb1_V2 : V2.cell? ⟨pX, 1, none⟩ = some (.int .i64 F.H.toInt) := by rw [← hWn]; exact (cellC (cellC fb1_V1 nxfb) nxfb)
    have fb2_V2 : V2.cell? ⟨pX, 2, none⟩ = some (.int .i64 F.L.toInt) := by rw [← hWn]; exact (cellC (cellC fb2_V1 nxfb) nxfb)
    have fb3_V2 : V2.cell? ⟨pX, 3, none⟩ = some (.int .i64 F.b) := by rw [← hWn]; exact (cellC (cellC fb3_V1 nxfb) nxfb)
    have fbF_V2 : ∀ o, V2.frozen? ⟨pX, o, none⟩ = false := fun o => by rw [← hWn]; exact (frzC (frzC (fbF_V1 o)))
    have fbL_V2 : pX < V2.heap.size := by rw [← hWn]; simpa using fbL_V1
    have rsF_V2 : ∀ o, V2.frozen? ⟨w.heap.size + 1 + 1, o, none⟩ = false := fun o => by rw [← hWn]; exact (frzC (frzC (rsF_V1 o)))
    have rsL_V2 : w.heap.size + 1 + 1 < V2.heap.size := by rw [← hWn]; simpa using rsL_V1
    have rp0_V2 : V2.cell? ⟨w.heap.size + 1 + 1 + 1, 0, none⟩ = some (.bool false) := by rw [← hWn]; exact (cellC (cellC rp0_V1 nxrp) nxrp)
    have rp1_V2 : V2.cell? ⟨w.heap.size + 1 + 1 + 1, 1, none⟩ = some (.int .i64 0) := by rw [← hWn]; exact (cellC (cellC rp1_V1 nxrp) nxrp)
    have rp2_V2 : V2.cell? ⟨w.heap.size + 1 + 1 + 1, 2, none⟩ = some (.int .i64 0) := by rw [← hWn]; exact (cellC (cellC rp2_V1 nxrp) nxrp)
    have rp3_V2 : V2.cell? ⟨w.heap.size + 1 + 1 + 1, 3, none⟩ = some (.int .i64 0) := by rw [← hWn]; exact (cellC (cellC rp3_V1 nxrp) nxrp)
    have rpF_V2 : ∀ o, V2.frozen? ⟨w.heap.size + 1 + 1 + 1, o, none⟩ = false := fun o => by rw [← hWn]; exact (frzC (frzC (rpF_V1 o)))
    have rpL_V2 : w.heap.size + 1 + 1 + 1 < V2.heap.size := by rw [← hWn]; simpa using rpL_V1
    have oP_V2 : Hid (OwnG KPl 46 V2 (W4.heap.size) (.slice (some ⟨pp, oo, none⟩) np c5) (ps)) := hidP (by rw [← hWn]; exact (OwnG.grown (OwnG.grown oP_V1.out (grown_cellG _ _ _ _) ryP) (grown_cellG _ _ _ _) ryP))
    have oY_V2 : Hid (OwnG KBk 38 V2 (wA.heap.size) (.slice aB nB cB) (insB ⟨F, ow⟩ bs)) := hidP (by rw [← hWn]; exact (OwnG.grown (OwnG.grown oY_V1.out (grown_cellG _ _ _ _) ryY) (grown_cellG _ _ _ _) ryY))
    have acc_V2 : Hid (Below w.heap.size w V2) := hidP (by rw [← hWn]; exact (Below.setCell (Below.setCell acc_V1.out lw _) lw _))
    have sz_V2 : Hid (V2.heap.size = V1.heap.size) := hidP (by rw [← hWn]; simp)
    clear hWn nxpb nxfb nxrp ryP ryY lw rs0_V1 rs1_V1 pb0_V1 pb1_V1 pbF_V1 pbL_V1 fb0_V1 fb1_V1 fb2_V1 fb3_V1 fbF_V1 fbL_V1 rsF_V1 rsL_V1 rp0_V1 rp1_V1 rp2_V1 rp3_V1 rpF_V1 rpL_V1 oP_V1 oY_V1 acc_V1
    refine wpAnyH_ready (rs := [3]) (by kernel_rfl) (by simp) ?_
    refine AllReadyH.cons rfl (fun K hK => ?_) AllReadyH.nil
    go_simp
    have nxpb : w.heap.size ≠ w.heap.size + 1 + 1 + 1 := (by have := HOR2.out; have := HLm.out; have := sz_wA.out; have := sz_wB.out; have := sz_WD.out; have := sz_V1.out; have := sz_V2.out; omega)
    have nxfb : pX ≠ w.heap.size + 1 + 1 + 1 := (by have := HOR2.out; have := HLm.out; have := sz_wA.out; have := sz_wB.out; have := sz_WD.out; have := sz_V1.out; have := sz_V2.out; omega)
    have nxrs : w.heap.size + 1 + 1 ≠ w.heap.size + 1 + 1 + 1 := (by have := HOR2.out; have := HLm.out; have := sz_wA.out; have := sz_wB.out; have := sz_WD.out; have := sz_V1.out; have := sz_V2.out; omega)
    refine hK.out _ _ ?_ (fun hHeld => ?_)
    · try dsimp only
      exact ⟨(cellC (cellC (cellC (cellC pb0_V2 nxpb) nxpb) nxpb) nxpb), (cellC (cellC (cellC (cellC pb1_V2 nxpb) nxpb) nxpb) nxpb), (cellC (cellC (cellC (cellC fb0_V2 nxfb) nxfb) nxfb) nxfb), (cellC (cellC (cellC (cellC fb1_V2 nxfb) nxfb) nxfb) nxfb), (cellC (cellC (cellC (cellC fb2_V2 nxfb) nxfb) nxfb) nxfb), (cellC (cellC (cellC (cellC fb3_V2 nxfb) nxfb) nxfb) nxfb)⟩
    clear hK K
    clear nxpb nxfb
    clear pb0_V2 pb1_V2 pbF_V2 pbL_V2
    clear fb0_V2 fb1_V2 fb2_V2 fb3_V2 fbF_V2 fbL_V2
    have ryP : ∀ k, (Value.slice (some ⟨pp, oo, none⟩) np c5).ownBlock = some k → some (w.heap.size + 1 + 1 + 1) ≠ some k := (fun k hk e => by have h5 := lhP.out k hk; have h6 := Option.some.inj e; have := HOR2.out; have := HLm.out; have := sz_wA.out; have := sz_wB.out; have := sz_WD.out; have := sz_V1.out; have := sz_V2.out; omega)
    have ryY : ∀ k, (Value.slice aB nB cB).ownBlock = some k → some (w.heap.size + 1 + 1 + 1) ≠ some k := (fun k hk e => by have h5 := lhY.out k hk; have h6 := Option.some.inj e; have := HOR2.out; have := HLm.out; have := sz_wA.out; have := sz_wB.out; have := sz_WD.out; have := sz_V1.out; have := sz_V2.out; omega)
    have lw : w.heap.size ≤ w.heap.size + 1 + 1 + 1 := (by have := HOR2.out; have := HLm.out; have := sz_wA.out; have := sz_wB.out; have := sz_WD.out; have := sz_V1.out; have := sz_V2.out; omega)
    generalize hWn : (((V2.setCell ⟨w.heap.size + 1 + 1 + 1, 0, none⟩ (.bool F.s)).setCell ⟨w.heap.size + 1 + 1 + 1, 1, none⟩ (.int .i64 F.H.toInt)).setCell ⟨w.heap.size + 1 + 1 + 1, 2, none⟩ (.int .i64 F.L.toInt)).setCell ⟨w.heap.size + 1 + 1 + 1, 3, none⟩ (.int .i64 F.b) = V3 at *
    have rp0_V3 : V3.cell? ⟨w.heap.size + 1 + 1 + 1, 0, none⟩ = some (.bool F.s) := by rw [← hWn]; simp [go_sem, rp0_V2]
    have rp1_V3 : V3.cell? ⟨w.heap.size + 1 + 1 + 1, 1, none⟩ = some (.int .i64 F.H.toInt) := by rw [← hWn]; simp [go_sem, rp1_V2]
    have rp2_V3 : V3.cell? ⟨w.heap.size + 1 + 1 + 1, 2, none⟩ = some (.int .i64 F.L.toInt) := by rw [← hWn]; simp [go_sem, rp2_V2]
    have rp3_V3 : V3.cell? ⟨w.heap.size + 1 + 1 + 1, 3, none⟩ = some (.int .i64 F.b) := by rw [← hWn]; simp [go_sem, rp3_V2]
    have rs0_V3 : V3.cell? ⟨w.heap.size + 1 + 1, 0, none⟩ = some (.slice (some ⟨pp, oo, none⟩) np c5) := by rw [← hWn]; exact (cellC (cellC (cellC (cellC rs0_V2 nxrs) nxrs) nxrs) nxrs)
    have rs1_V3 : V3.cell? ⟨w.heap.size + 1 + 1, 1, none⟩ = some (.slice aB nB cB) := by rw [← hWn]; exact (cellC (cellC (cellC (cellC rs1_V2 nxrs) nxrs) nxrs) nxrs)
    have rsF_V3 : ∀ o, V3.frozen? ⟨w.heap.size + 1 + 1, o, none⟩ = false := fun o => by rw [← hWn]; exact (frzC (frzC (frzC (frzC (rsF_V2 o)))))
    have rsL_V3 : w.heap.size + 1 + 1 < V3.heap.size := by rw [← hWn]; simpa using rsL_V2
    have rpF_V3 : ∀ o, V3.frozen? ⟨w.heap.size + 1 + 1 + 1, o, none⟩ = false := fun o => by rw [← hWn]; exact (frzC (frzC (frzC (frzC (rpF_V2 o)))))
    have rpL_V3 : w.heap.size + 1 + 1 + 1 < V3.heap.size := by rw [← hWn]; simpa using rpL_V2
    have oP_V3 : Hid (OwnG KPl 46 V3 (W4.heap.size) (.slice (some ⟨pp, oo, none⟩) np c5) (ps)) := hidP (by rw [← hWn]; exact (OwnG.grown (OwnG.grown (OwnG.grown (OwnG.grown oP_V2.out (grown_cellG _ _ _ _) ryP) (grown_cellG _ _ _ _) ryP) (grown_cellG _ _ _ _) ryP) (grown_cellG _ _ _ _) ryP))
    have oY_V3 : Hid (OwnG KBk 38 V3 (wA.heap.size) (.slice aB nB cB) (insB ⟨F, ow⟩ bs)) := hidP (by rw [← hWn]; exact (OwnG.grown (OwnG.grown (OwnG.grown (OwnG.grown oY_V2.out (grown_cellG _ _ _ _) ryY) (grown_cellG _ _ _ _) ryY) (grown_cellG _ _ _ _) ryY) (grown_cellG _ _ _ _) ryY))
    have acc_V3 : Hid (Below w.heap.size w V3) := hidP (by rw [← hWn]; exact (Below.setCell (Below.setCell (Below.setCell (Below.setCell acc_V2.out lw _) lw _) lw _) lw _))
    have sz_V3 : Hid (V3.heap.size = V2.heap.size) := hidP (by rw [← hWn]; simp)
    clear hWn nxrs ryP ryY lw rp0_V2 rp1_V2 rp2_V2 rp3_V2 rs0_V2 rs1_V2 rsF_V2 rsL_V2 rpF_V2 rpL_V2 oP_V2 oY_V2 acc_V2
    refine tk 4 8 rfl ?_
    simp only [pa]
    refine wpAnyH_done (by kernel_rfl) ?_ _
    clear hHeld
    go_wp2_with fail
    have eO := HEO.out
    subst eO
    refine bodyPost_ret (v := .tuple #[.agg #[.slice (some ⟨pp, oo, none⟩) np c5, .slice aB nB cB], .agg #[.bool F.s, .int .i64 F.H.toInt, .int .i64 F.L.toInt, .int .i64 F.b], .int .i64 0]) (by simp [results, Tryz.results8, go_sem, rs0_V3, rs1_V3, rp0_V3, rp1_V3, rp2_V3, rp3_V3]) rfl ⟨_, _, _, _, _, rfl, ?_, ?_, ?_, ?_, ?_⟩
    · exact HNb.out
    · have hB : w.heap.size + 1 + 1 + 1 < W4.heap.size ∧ w.heap.size ≤ W4.heap.size := (by have := HOR2.out; have := HLm.out; have := sz_wA.out; have := sz_wB.out; have := sz_WD.out; have := sz_V1.out; have := sz_V2.out; have := sz_V3.out; omega)
      refine OwnG.mono (B := W4.heap.size) ?_ hB.2
      repeat (first | (with_reducible refine OwnG.drewC ?_) | (with_reducible refine OwnG.grown ?_ (grown_cellG _ _ _ _) ?_; rotate_left; (focus (exact OwnG.ne_ofC oP_V3.out (by omega)))))
      with_reducible exact oP_V3.out
    · have hB : w.heap.size + 1 + 1 + 1 < wA.heap.size ∧ w.heap.size ≤ wA.heap.size := (by have := HOR2.out; have := HLm.out; have := sz_wA.out; have := sz_wB.out; have := sz_WD.out; have := sz_V1.out; have := sz_V2.out; have := sz_V3.out; omega)
      refine OwnG.mono (B := wA.heap.size) ?_ hB.2
      repeat (first | (with_reducible refine OwnG.drewC ?_) | (with_reducible refine OwnG.grown ?_ (grown_cellG _ _ _ _) ?_; rotate_left; (focus (exact OwnG.ne_ofC oY_V3.out (by omega)))))
      with_reducible exact oY_V3.out
    · exact NE9.out
    · repeat (first | (with_reducible refine Below.drew ?_) | (with_reducible refine Below.setCell ?_ ?_ _; rotate_left; (focus (first | (simp; done) | (simp; omega) | (dsimp only; have := HOR2.out; have := HLm.out; have := sz_wA.out; have := sz_wB.out; have := sz_WD.out; have := sz_V1.out; have := sz_V2.out; have := sz_V3.out; omega)))))
      exact acc_V3.out

end Go.Proofs.YtdbcdichmmcnbaaGreat
