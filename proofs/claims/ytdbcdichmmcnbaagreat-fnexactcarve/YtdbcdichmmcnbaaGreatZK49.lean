/-
  The specification's Carve: what it makes of any plan, pool and owner.
-/
import Derived.Test.YtdbcdichmmcnbaaGreatZK44
import Derived.Test.YtdbcdichmmcnbaaGreatZK45
import Derived.Test.YtdbcdichmmcnbaaGreatZK48
import Derived.Test.YtdbcdichmmcnbaaGreatZK6
import Derived.Test.YtdbcdichmmcnbaaGreatZK35
import Derived.Test.YtdbcdichmmcnbaaGreatZK18
import Derived.Test.YtdbcdichmmcnbaaGreatZK1
import Derived.Deep.DeepCutAuto
namespace Go.Proofs.YtdbcdichmmcnbaaGreat
open Go.RowKit Go.Maps Go.Deep

set_option maxRecDepth 10000 in
set_option maxHeartbeats 8000000 in
theorem sCarve_any (pt : Pf) (ow : ByteArray) (how : ow.size ≤ 9223372036854775807) (ap : Option Addr) (np cp : Nat) (ab : Option Addr) (nb cb : Nat) (ps : List Pl) (bs : List Bk) (bits : Int) (zs : List Sp) (w : World) (hnp : np = ps.length) (hnb : nb = bs.length) (hP : RowG KPl w ap ps) (hK : RowG KBk w ab bs) (hcp : ap = none → cp = 0) (hcb : ab = none → cb = 0) (hl : np ≤ 1048576) (hl' : nb ≤ 1048576) (hst : ∀ q ∈ bs, q.t.size ≤ 9223372036854775807) (hbt : ∀ (j : Nat) (q : Pl), plc pt ps = (j : Int) → ps[j]? = some q → bits = q.n)
    (hFF : pt.pk = true → bs.length ≤ 60 → cvFS pt (fil bs pt) bits zs) (hFz : ∀ z r, zs = z :: r → (⟨z.s, z.H, z.L, bits⟩ : Pf).pk = true ∧ winP ⟨z.s, z.H, z.L, bits⟩ pt = true ∧ ∀ u ∈ fil bs pt, ovP u ⟨z.s, z.H, z.L, bits⟩ = false) :
    Calls Tryz.prog 9 #[.agg #[.slice ap np cp, .slice ab nb cb], .agg #[.bool pt.s, .int .i64 pt.H.toInt, .int .i64 pt.L.toInt, .int .i64 pt.b], .string ow] w fun e w' => ∃ a c b n d, e = .returned (.tuple #[.agg #[.slice a np c, .slice b n d], .agg #[.bool (cvO ps bs pt ow bits zs).f.s, .int .i64 (cvO ps bs pt ow bits zs).f.H.toInt, .int .i64 (cvO ps bs pt ow bits zs).f.L.toInt, .int .i64 (cvO ps bs pt ow bits zs).f.b], .int .i64 (cvO ps bs pt ow bits zs).c]) ∧ n = (cvO ps bs pt ow bits zs).b.length ∧ OwnG KPl 46 w' w.heap.size (.slice a np c) ps ∧ OwnG KBk 38 w' w.heap.size (.slice b n d) (cvO ps bs pt ow bits zs).b ∧ (∀ k, (Value.slice a np c).ownBlock = some k → (Value.slice b n d).ownBlock ≠ some k) ∧ Below w.heap.size w w' := by
  have HOw := hidP (fun W h' => l5Copy_any ap np cp ab nb cb ps bs W hnp hnb (hP.later h') (hK.later h') hcp hcb hl hl')
  have HPO := hidP (fun W h' => sPlanOk_any ap np cp ab nb cb ps bs W hnp hnb (hP.later h') (hK.later h') (by omega) (by omega) hst)
  have HPk := hidP (sPrefixOk_any pt.s pt.H pt.L pt.b)
  change Hid (∀ w, Calls Tryz.prog 42 _ w fun e w' => e = .returned (.bool pt.pk) ∧ Below w.heap.size w w') at HPk
  have HOO := hidP (fun W => sOwnerOk_any ow W how)
  have HRP := hidP hP
  have HRB := hidP hK
  obtain ⟨O, hO⟩ : ∃ O, O = cvO ps bs pt ow bits zs := ⟨_, rfl⟩
  rw [← hO]
  have HO := hidP hO
  have HN := hidP (And.intro hnp hnb)
  have HFF := hidP hFF
  have HFz := hidP hFz
  have HBt := hidP hbt
  obtain ⟨r1, hr1⟩ : ∃ r, planB ps bs = r := ⟨_, rfl⟩
  obtain ⟨r2, hr2⟩ : ∃ r, pt.pk = r := ⟨_, rfl⟩
  obtain ⟨r3, hr3⟩ : ∃ r, ownB ow = r := ⟨_, rfl⟩
  rw [hr1] at HPO
  rw [hr2] at HPk
  rw [hr3] at HOO
  have H1 := hidP hr1
  have H2 := hidP hr2
  have H3 := hidP hr3
  clear hP hK hnp hnb hst how hO hFF hFz hbt hr1 hr2 hr3 hcp hcb
  go_enter Tryz.func9, Tryz.ntmps9
  go_wp2_with fail
  obtain ⟨pb0_W1, pb1_W1⟩ := box2C w 27 (.slice ap np cp) (.slice ab nb cb)
  have pbF_W1 : ∀ o, (w.alloc (.cells #[.slice ap np cp, .slice ab nb cb] 27)).frozen? ⟨w.heap.size, o, none⟩ = false := fun o => by simp [go_sem]
  have pbL_W1 : w.heap.size < (w.alloc (.cells #[.slice ap np cp, .slice ab nb cb] 27)).heap.size := by simp
  have ab_W1 := alloc_below w (.cells #[.slice ap np cp, .slice ab nb cb] 27)
  have as_W1 : Hid ((w.alloc (.cells #[.slice ap np cp, .slice ab nb cb] 27)).heap.size = w.heap.size + 1) := hidP (by simp)
  generalize w.alloc (.cells #[.slice ap np cp, .slice ab nb cb] 27) = W1 at *
  have acc_W1 := hidP (ab_W1)
  have sz_W1 : Hid (w.heap.size ≤ W1.heap.size) := hidP ab_W1.size
  clear ab_W1 
  obtain ⟨at0_W2, at1_W2, at2_W2, at3_W2⟩ := box4C W1 31 (.bool pt.s) (.int .i64 pt.H.toInt) (.int .i64 pt.L.toInt) (.int .i64 pt.b)
  have atF_W2 : ∀ o, (W1.alloc (.cells #[.bool pt.s, .int .i64 pt.H.toInt, .int .i64 pt.L.toInt, .int .i64 pt.b] 31)).frozen? ⟨W1.heap.size, o, none⟩ = false := fun o => by simp [go_sem]
  have atL_W2 : W1.heap.size < (W1.alloc (.cells #[.bool pt.s, .int .i64 pt.H.toInt, .int .i64 pt.L.toInt, .int .i64 pt.b] 31)).heap.size := by simp
  have ab_W2 := alloc_below W1 (.cells #[.bool pt.s, .int .i64 pt.H.toInt, .int .i64 pt.L.toInt, .int .i64 pt.b] 31)
  have as_W2 : Hid ((W1.alloc (.cells #[.bool pt.s, .int .i64 pt.H.toInt, .int .i64 pt.L.toInt, .int .i64 pt.b] 31)).heap.size = W1.heap.size + 1) := hidP (by simp)
  generalize W1.alloc (.cells #[.bool pt.s, .int .i64 pt.H.toInt, .int .i64 pt.L.toInt, .int .i64 pt.b] 31) = W2 at *
  have pb0_W2 := (ab_W2.cell pbL_W1).trans pb0_W1
  have pb1_W2 := (ab_W2.cell pbL_W1).trans pb1_W1
  have pbF_W2 : ∀ o, W2.frozen? ⟨w.heap.size, o, none⟩ = false := fun o => (ab_W2.frozen pbL_W1).trans (pbF_W1 o)
  have pbL_W2 : w.heap.size < W2.heap.size := Nat.lt_of_lt_of_le pbL_W1 ab_W2.size
  have acc_W2 := hidP (acc_W1.out.trans (ab_W2.mono acc_W1.out.size))
  have sz_W2 : Hid (W1.heap.size ≤ W2.heap.size) := hidP ab_W2.size
  clear ab_W2 pb0_W1 pb1_W1 pbF_W1 pbL_W1 acc_W1
  rw [as_W1.out] at at0_W2 at1_W2 at2_W2 at3_W2 atL_W2
  have atF_W2' : ∀ o, W2.frozen? ⟨w.heap.size + 1, o, none⟩ = false := fun o => by have := atF_W2 o; rw [as_W1.out] at this; exact this
  clear atF_W2
  have atF_W2 := atF_W2'
  clear atF_W2'
  obtain ⟨rs0_W3, rs1_W3⟩ := box2C W2 27 (.slice none 0 0) (.slice none 0 0)
  have rsF_W3 : ∀ o, (W2.alloc (.cells #[.slice none 0 0, .slice none 0 0] 27)).frozen? ⟨W2.heap.size, o, none⟩ = false := fun o => by simp [go_sem]
  have rsL_W3 : W2.heap.size < (W2.alloc (.cells #[.slice none 0 0, .slice none 0 0] 27)).heap.size := by simp
  have ab_W3 := alloc_below W2 (.cells #[.slice none 0 0, .slice none 0 0] 27)
  have as_W3 : Hid ((W2.alloc (.cells #[.slice none 0 0, .slice none 0 0] 27)).heap.size = W2.heap.size + 1) := hidP (by simp)
  generalize W2.alloc (.cells #[.slice none 0 0, .slice none 0 0] 27) = W3 at *
  have pb0_W3 := (ab_W3.cell pbL_W2).trans pb0_W2
  have pb1_W3 := (ab_W3.cell pbL_W2).trans pb1_W2
  have pbF_W3 : ∀ o, W3.frozen? ⟨w.heap.size, o, none⟩ = false := fun o => (ab_W3.frozen pbL_W2).trans (pbF_W2 o)
  have pbL_W3 : w.heap.size < W3.heap.size := Nat.lt_of_lt_of_le pbL_W2 ab_W3.size
  have at0_W3 := (ab_W3.cell atL_W2).trans at0_W2
  have at1_W3 := (ab_W3.cell atL_W2).trans at1_W2
  have at2_W3 := (ab_W3.cell atL_W2).trans at2_W2
  have at3_W3 := (ab_W3.cell atL_W2).trans at3_W2
  have atF_W3 : ∀ o, W3.frozen? ⟨w.heap.size + 1, o, none⟩ = false := fun o => (ab_W3.frozen atL_W2).trans (atF_W2 o)
  have atL_W3 : w.heap.size + 1 < W3.heap.size := Nat.lt_of_lt_of_le atL_W2 ab_W3.size
  have acc_W3 := hidP (acc_W2.out.trans (ab_W3.mono acc_W2.out.size))
  have sz_W3 : Hid (W2.heap.size ≤ W3.heap.size) := hidP ab_W3.size
  clear ab_W3 pb0_W2 pb1_W2 pbF_W2 pbL_W2 at0_W2 at1_W2 at2_W2 at3_W2 atF_W2 atL_W2 acc_W2
  rw [as_W2.out, as_W1.out] at rs0_W3 rs1_W3 rsL_W3
  have rsF_W3' : ∀ o, W3.frozen? ⟨w.heap.size + 1 + 1, o, none⟩ = false := fun o => by have := rsF_W3 o; rw [as_W2.out, as_W1.out] at this; exact this
  clear rsF_W3
  have rsF_W3 := rsF_W3'
  clear rsF_W3'
  obtain ⟨rp0_W4, rp1_W4, rp2_W4, rp3_W4⟩ := box4C W3 31 (.bool false) (.int .i64 0) (.int .i64 0) (.int .i64 0)
  have rpF_W4 : ∀ o, (W3.alloc (.cells #[.bool false, .int .i64 0, .int .i64 0, .int .i64 0] 31)).frozen? ⟨W3.heap.size, o, none⟩ = false := fun o => by simp [go_sem]
  have rpL_W4 : W3.heap.size < (W3.alloc (.cells #[.bool false, .int .i64 0, .int .i64 0, .int .i64 0] 31)).heap.size := by simp
  have ab_W4 := alloc_below W3 (.cells #[.bool false, .int .i64 0, .int .i64 0, .int .i64 0] 31)
  have as_W4 : Hid ((W3.alloc (.cells #[.bool false, .int .i64 0, .int .i64 0, .int .i64 0] 31)).heap.size = W3.heap.size + 1) := hidP (by simp)
  generalize W3.alloc (.cells #[.bool false, .int .i64 0, .int .i64 0, .int .i64 0] 31) = W4 at *
  have pb0_W4 := (ab_W4.cell pbL_W3).trans pb0_W3
  have pb1_W4 := (ab_W4.cell pbL_W3).trans pb1_W3
  have pbF_W4 : ∀ o, W4.frozen? ⟨w.heap.size, o, none⟩ = false := fun o => (ab_W4.frozen pbL_W3).trans (pbF_W3 o)
  have pbL_W4 : w.heap.size < W4.heap.size := Nat.lt_of_lt_of_le pbL_W3 ab_W4.size
  have at0_W4 := (ab_W4.cell atL_W3).trans at0_W3
  have at1_W4 := (ab_W4.cell atL_W3).trans at1_W3
  have at2_W4 := (ab_W4.cell atL_W3).trans at2_W3
  have at3_W4 := (ab_W4.cell atL_W3).trans at3_W3
  have atF_W4 : ∀ o, W4.frozen? ⟨w.heap.size + 1, o, none⟩ = false := fun o => (ab_W4.frozen atL_W3).trans (atF_W3 o)
  have atL_W4 : w.heap.size + 1 < W4.heap.size := Nat.lt_of_lt_of_le atL_W3 ab_W4.size
  have rs0_W4 := (ab_W4.cell rsL_W3).trans rs0_W3
  have rs1_W4 := (ab_W4.cell rsL_W3).trans rs1_W3
  have rsF_W4 : ∀ o, W4.frozen? ⟨w.heap.size + 1 + 1, o, none⟩ = false := fun o => (ab_W4.frozen rsL_W3).trans (rsF_W3 o)
  have rsL_W4 : w.heap.size + 1 + 1 < W4.heap.size := Nat.lt_of_lt_of_le rsL_W3 ab_W4.size
  have acc_W4 := hidP (acc_W3.out.trans (ab_W4.mono acc_W3.out.size))
  have sz_W4 : Hid (W3.heap.size ≤ W4.heap.size) := hidP ab_W4.size
  clear ab_W4 pb0_W3 pb1_W3 pbF_W3 pbL_W3 at0_W3 at1_W3 at2_W3 at3_W3 atF_W3 atL_W3 rs0_W3 rs1_W3 rsF_W3 rsL_W3 acc_W3
  rw [as_W3.out, as_W2.out, as_W1.out] at rp0_W4 rp1_W4 rp2_W4 rp3_W4 rpL_W4
  have rpF_W4' : ∀ o, W4.frozen? ⟨w.heap.size + 1 + 1 + 1, o, none⟩ = false := fun o => by have := rpF_W4 o; rw [as_W3.out, as_W2.out, as_W1.out] at this; exact this
  clear rpF_W4
  have rpF_W4 := rpF_W4'
  clear rpF_W4'
  have rsP_W4 := hidP (BxK.mk2 rs0_W4 rs1_W4 rsF_W4 rsL_W4)
  clear rs0_W4 rs1_W4 rsF_W4 rsL_W4
  have rpP_W4 := hidP (BxK.mk4 rp0_W4 rp1_W4 rp2_W4 rp3_W4 rpF_W4 rpL_W4)
  clear rp0_W4 rp1_W4 rp2_W4 rp3_W4 rpF_W4 rpL_W4
  refine (HOw.out _ acc_W4.out).mono ?_
  rintro e w5 ⟨a5, c5, b5, d5, rfl, og5, oh5, nq5, hb5⟩
  have OX := hidP (And.intro og5 (And.intro oh5 nq5))
  clear og5 oh5 nq5
  have rsP_w5 := hidP (rsP_W4.out.later hb5)
  have rpP_w5 := hidP (rpP_W4.out.later hb5)
  clear rsP_W4 rpP_W4
  have pb0_w5 := (hb5.cell pbL_W4).trans pb0_W4
  have pb1_w5 := (hb5.cell pbL_W4).trans pb1_W4
  have pbF_w5 : ∀ o, w5.frozen? ⟨w.heap.size, o, none⟩ = false := fun o => (hb5.frozen pbL_W4).trans (pbF_W4 o)
  have pbL_w5 : w.heap.size < w5.heap.size := Nat.lt_of_lt_of_le pbL_W4 hb5.size
  have at0_w5 := (hb5.cell atL_W4).trans at0_W4
  have at1_w5 := (hb5.cell atL_W4).trans at1_W4
  have at2_w5 := (hb5.cell atL_W4).trans at2_W4
  have at3_w5 := (hb5.cell atL_W4).trans at3_W4
  have atF_w5 : ∀ o, w5.frozen? ⟨w.heap.size + 1, o, none⟩ = false := fun o => (hb5.frozen atL_W4).trans (atF_W4 o)
  have atL_w5 : w.heap.size + 1 < w5.heap.size := Nat.lt_of_lt_of_le atL_W4 hb5.size
  have acc_w5 := hidP (acc_W4.out.trans (hb5.mono acc_W4.out.size))
  have sz_w5 : Hid (W4.heap.size ≤ w5.heap.size) := hidP hb5.size
  clear hb5 pb0_W4 pb1_W4 pbF_W4 pbL_W4 at0_W4 at1_W4 at2_W4 at3_W4 atF_W4 atL_W4 acc_W4
  have HOR1 := hidP (And.intro as_W1.out (And.intro sz_W1.out (And.intro as_W2.out (And.intro sz_W2.out (And.intro as_W3.out (And.intro sz_W3.out (And.intro as_W4.out (And.intro sz_W4.out sz_w5.out))))))))
  clear sz_W1 sz_W2 sz_W3 sz_W4 sz_w5
  have oP_w5 := hidP (OX.out.1)
  have lhP : Hid (∀ k, (Value.slice a5 np c5).ownBlock = some k → W4.heap.size ≤ k ∧ k < w5.heap.size) := hidP (fun k hk => OwnG.lt oP_w5.out k hk)
  have oQ_w5 := hidP (OX.out.2.1)
  have lhQ : Hid (∀ k, (Value.slice b5 nb d5).ownBlock = some k → W4.heap.size ≤ k ∧ k < w5.heap.size) := hidP (fun k hk => OwnG.lt oQ_w5.out k hk)
  have ne5 := hidP OX.out.2.2
  clear OX
  go_wp2_with fail
  obtain ⟨ot0_W6, ot1_W6⟩ := box2C w5 27 (.slice a5 np c5) (.slice b5 nb d5)
  have otF_W6 : ∀ o, (w5.alloc (.cells #[.slice a5 np c5, .slice b5 nb d5] 27)).frozen? ⟨w5.heap.size, o, none⟩ = false := fun o => by simp [go_sem]
  have otL_W6 : w5.heap.size < (w5.alloc (.cells #[.slice a5 np c5, .slice b5 nb d5] 27)).heap.size := by simp
  have ab_W6 := alloc_below w5 (.cells #[.slice a5 np c5, .slice b5 nb d5] 27)
  have as_W6 : Hid ((w5.alloc (.cells #[.slice a5 np c5, .slice b5 nb d5] 27)).heap.size = w5.heap.size + 1) := hidP (by simp)
  generalize w5.alloc (.cells #[.slice a5 np c5, .slice b5 nb d5] 27) = W6 at *
  have rsP_W6 := hidP (rsP_w5.out.later ab_W6)
  have rpP_W6 := hidP (rpP_w5.out.later ab_W6)
  clear rsP_w5 rpP_w5
  have pb0_W6 := (ab_W6.cell pbL_w5).trans pb0_w5
  have pb1_W6 := (ab_W6.cell pbL_w5).trans pb1_w5
  have pbF_W6 : ∀ o, W6.frozen? ⟨w.heap.size, o, none⟩ = false := fun o => (ab_W6.frozen pbL_w5).trans (pbF_w5 o)
  have pbL_W6 : w.heap.size < W6.heap.size := Nat.lt_of_lt_of_le pbL_w5 ab_W6.size
  have at0_W6 := (ab_W6.cell atL_w5).trans at0_w5
  have at1_W6 := (ab_W6.cell atL_w5).trans at1_w5
  have at2_W6 := (ab_W6.cell atL_w5).trans at2_w5
  have at3_W6 := (ab_W6.cell atL_w5).trans at3_w5
  have atF_W6 : ∀ o, W6.frozen? ⟨w.heap.size + 1, o, none⟩ = false := fun o => (ab_W6.frozen atL_w5).trans (atF_w5 o)
  have atL_W6 : w.heap.size + 1 < W6.heap.size := Nat.lt_of_lt_of_le atL_w5 ab_W6.size
  have oP_W6 := hidP (OwnG.later oP_w5.out ab_W6)
  have oQ_W6 := hidP (OwnG.later oQ_w5.out ab_W6)
  have acc_W6 := hidP (acc_w5.out.trans (ab_W6.mono acc_w5.out.size))
  have sz_W6 : Hid (w5.heap.size ≤ W6.heap.size) := hidP ab_W6.size
  clear ab_W6 pb0_w5 pb1_w5 pbF_w5 pbL_w5 at0_w5 at1_w5 at2_w5 at3_w5 atF_w5 atL_w5 oP_w5 oQ_w5 acc_w5
  obtain ⟨no0_W7, no1_W7, no2_W7, no3_W7⟩ := box4C W6 31 (.bool false) (.int .i64 0) (.int .i64 0) (.int .i64 0)
  have noF_W7 : ∀ o, (W6.alloc (.cells #[.bool false, .int .i64 0, .int .i64 0, .int .i64 0] 31)).frozen? ⟨W6.heap.size, o, none⟩ = false := fun o => by simp [go_sem]
  have noL_W7 : W6.heap.size < (W6.alloc (.cells #[.bool false, .int .i64 0, .int .i64 0, .int .i64 0] 31)).heap.size := by simp
  have ab_W7 := alloc_below W6 (.cells #[.bool false, .int .i64 0, .int .i64 0, .int .i64 0] 31)
  have as_W7 : Hid ((W6.alloc (.cells #[.bool false, .int .i64 0, .int .i64 0, .int .i64 0] 31)).heap.size = W6.heap.size + 1) := hidP (by simp)
  generalize W6.alloc (.cells #[.bool false, .int .i64 0, .int .i64 0, .int .i64 0] 31) = W7 at *
  have rsP_W7 := hidP (rsP_W6.out.later ab_W7)
  have rpP_W7 := hidP (rpP_W6.out.later ab_W7)
  clear rsP_W6 rpP_W6
  have pb0_W7 := (ab_W7.cell pbL_W6).trans pb0_W6
  have pb1_W7 := (ab_W7.cell pbL_W6).trans pb1_W6
  have pbF_W7 : ∀ o, W7.frozen? ⟨w.heap.size, o, none⟩ = false := fun o => (ab_W7.frozen pbL_W6).trans (pbF_W6 o)
  have pbL_W7 : w.heap.size < W7.heap.size := Nat.lt_of_lt_of_le pbL_W6 ab_W7.size
  have at0_W7 := (ab_W7.cell atL_W6).trans at0_W6
  have at1_W7 := (ab_W7.cell atL_W6).trans at1_W6
  have at2_W7 := (ab_W7.cell atL_W6).trans at2_W6
  have at3_W7 := (ab_W7.cell atL_W6).trans at3_W6
  have atF_W7 : ∀ o, W7.frozen? ⟨w.heap.size + 1, o, none⟩ = false := fun o => (ab_W7.frozen atL_W6).trans (atF_W6 o)
  have atL_W7 : w.heap.size + 1 < W7.heap.size := Nat.lt_of_lt_of_le atL_W6 ab_W7.size
  have ot0_W7 := (ab_W7.cell otL_W6).trans ot0_W6
  have ot1_W7 := (ab_W7.cell otL_W6).trans ot1_W6
  have otF_W7 : ∀ o, W7.frozen? ⟨w5.heap.size, o, none⟩ = false := fun o => (ab_W7.frozen otL_W6).trans (otF_W6 o)
  have otL_W7 : w5.heap.size < W7.heap.size := Nat.lt_of_lt_of_le otL_W6 ab_W7.size
  have oP_W7 := hidP (OwnG.later oP_W6.out ab_W7)
  have oQ_W7 := hidP (OwnG.later oQ_W6.out ab_W7)
  have acc_W7 := hidP (acc_W6.out.trans (ab_W7.mono acc_W6.out.size))
  have sz_W7 : Hid (W6.heap.size ≤ W7.heap.size) := hidP ab_W7.size
  clear ab_W7 pb0_W6 pb1_W6 pbF_W6 pbL_W6 at0_W6 at1_W6 at2_W6 at3_W6 atF_W6 atL_W6 ot0_W6 ot1_W6 otF_W6 otL_W6 oP_W6 oQ_W6 acc_W6
  rw [as_W6.out] at no0_W7 no1_W7 no2_W7 no3_W7 noL_W7
  have noF_W7' : ∀ o, W7.frozen? ⟨w5.heap.size + 1, o, none⟩ = false := fun o => by have := noF_W7 o; rw [as_W6.out] at this; exact this
  clear noF_W7
  have noF_W7 := noF_W7'
  clear noF_W7'
  have noP_W7 := hidP (BxK.mk4 no0_W7 no1_W7 no2_W7 no3_W7 noF_W7 noL_W7)
  clear no0_W7 no1_W7 no2_W7 no3_W7 noF_W7 noL_W7
  have otP_W7 := hidP (BxK.mk2 ot0_W7 ot1_W7 otF_W7 otL_W7)
  clear ot0_W7 ot1_W7 otF_W7 otL_W7
  refine (HPO.out _ acc_W7.out).mono ?_
  rintro e w8 ⟨rfl, hb8⟩
  have rsP_w8 := hidP (rsP_W7.out.later hb8)
  have rpP_w8 := hidP (rpP_W7.out.later hb8)
  have noP_w8 := hidP (noP_W7.out.later hb8)
  have otP_w8 := hidP (otP_W7.out.later hb8)
  clear rsP_W7 rpP_W7 noP_W7 otP_W7
  have pb0_w8 := (hb8.cell pbL_W7).trans pb0_W7
  have pb1_w8 := (hb8.cell pbL_W7).trans pb1_W7
  have pbF_w8 : ∀ o, w8.frozen? ⟨w.heap.size, o, none⟩ = false := fun o => (hb8.frozen pbL_W7).trans (pbF_W7 o)
  have pbL_w8 : w.heap.size < w8.heap.size := Nat.lt_of_lt_of_le pbL_W7 hb8.size
  have at0_w8 := (hb8.cell atL_W7).trans at0_W7
  have at1_w8 := (hb8.cell atL_W7).trans at1_W7
  have at2_w8 := (hb8.cell atL_W7).trans at2_W7
  have at3_w8 := (hb8.cell atL_W7).trans at3_W7
  have atF_w8 : ∀ o, w8.frozen? ⟨w.heap.size + 1, o, none⟩ = false := fun o => (hb8.frozen atL_W7).trans (atF_W7 o)
  have atL_w8 : w.heap.size + 1 < w8.heap.size := Nat.lt_of_lt_of_le atL_W7 hb8.size
  have oP_w8 := hidP (OwnG.later oP_W7.out hb8)
  have oQ_w8 := hidP (OwnG.later oQ_W7.out hb8)
  have acc_w8 := hidP (acc_W7.out.trans (hb8.mono acc_W7.out.size))
  have sz_w8 : Hid (W7.heap.size ≤ w8.heap.size) := hidP hb8.size
  clear hb8 pb0_W7 pb1_W7 pbF_W7 pbL_W7 at0_W7 at1_W7 at2_W7 at3_W7 atF_W7 atL_W7 oP_W7 oQ_W7 acc_W7
  cases r1
  · go_wp2_with fail
    clear pb0_w8 pb1_w8 pbF_w8 pbL_w8
    clear at0_w8 at1_w8 at2_w8 at3_w8 atF_w8 atL_w8
    have rs0_w8 := rsP_w8.out.1 0 _ rfl
    have rs1_w8 := rsP_w8.out.1 1 _ rfl
    have rsF_w8 := rsP_w8.out.2.1
    have rsL_w8 := rsP_w8.out.2.2
    clear rsP_w8
    have rp0_w8 := rpP_w8.out.1 0 _ rfl
    have rp1_w8 := rpP_w8.out.1 1 _ rfl
    have rp2_w8 := rpP_w8.out.1 2 _ rfl
    have rp3_w8 := rpP_w8.out.1 3 _ rfl
    have rpF_w8 := rpP_w8.out.2.1
    have rpL_w8 := rpP_w8.out.2.2
    clear rpP_w8
    have ot0_w8 := otP_w8.out.1 0 _ rfl
    have ot1_w8 := otP_w8.out.1 1 _ rfl
    have otF_w8 := otP_w8.out.2.1
    have otL_w8 := otP_w8.out.2.2
    clear otP_w8
    have no0_w8 := noP_w8.out.1 0 _ rfl
    have no1_w8 := noP_w8.out.1 1 _ rfl
    have no2_w8 := noP_w8.out.1 2 _ rfl
    have no3_w8 := noP_w8.out.1 3 _ rfl
    have noF_w8 := noP_w8.out.2.1
    have noL_w8 := noP_w8.out.2.2
    clear noP_w8
    have hbd := (Below.refl w8.heap.size w8).drew
    refine wp_region_held_drew (S := (fun x => x.cell? ⟨w5.heap.size, 0, none⟩ = some (.slice a5 np c5) ∧ x.cell? ⟨w5.heap.size, 1, none⟩ = some (.slice b5 nb d5) ∧ x.cell? ⟨w5.heap.size + 1, 0, none⟩ = some (.bool false) ∧ x.cell? ⟨w5.heap.size + 1, 1, none⟩ = some (.int .i64 0) ∧ x.cell? ⟨w5.heap.size + 1, 2, none⟩ = some (.int .i64 0) ∧ x.cell? ⟨w5.heap.size + 1, 3, none⟩ = some (.int .i64 0))) (by kernel_rfl) ?_ (fun hHeld => ?_)
    · try dsimp only
      exact ⟨(hbd.cell otL_w8).trans ot0_w8, (hbd.cell otL_w8).trans ot1_w8, (hbd.cell noL_w8).trans no0_w8, (hbd.cell noL_w8).trans no1_w8, (hbd.cell noL_w8).trans no2_w8, (hbd.cell noL_w8).trans no3_w8⟩
    generalize w8.drew = V1 at *
    have rs0_V1 := (hbd.cell rsL_w8).trans rs0_w8
    have rs1_V1 := (hbd.cell rsL_w8).trans rs1_w8
    have rsF_V1 : ∀ o, V1.frozen? ⟨w.heap.size + 1 + 1, o, none⟩ = false := fun o => (hbd.frozen rsL_w8).trans (rsF_w8 o)
    have rsL_V1 : w.heap.size + 1 + 1 < V1.heap.size := Nat.lt_of_lt_of_le rsL_w8 hbd.size
    have rp0_V1 := (hbd.cell rpL_w8).trans rp0_w8
    have rp1_V1 := (hbd.cell rpL_w8).trans rp1_w8
    have rp2_V1 := (hbd.cell rpL_w8).trans rp2_w8
    have rp3_V1 := (hbd.cell rpL_w8).trans rp3_w8
    have rpF_V1 : ∀ o, V1.frozen? ⟨w.heap.size + 1 + 1 + 1, o, none⟩ = false := fun o => (hbd.frozen rpL_w8).trans (rpF_w8 o)
    have rpL_V1 : w.heap.size + 1 + 1 + 1 < V1.heap.size := Nat.lt_of_lt_of_le rpL_w8 hbd.size
    have ot0_V1 := (hbd.cell otL_w8).trans ot0_w8
    have ot1_V1 := (hbd.cell otL_w8).trans ot1_w8
    have otF_V1 : ∀ o, V1.frozen? ⟨w5.heap.size, o, none⟩ = false := fun o => (hbd.frozen otL_w8).trans (otF_w8 o)
    have otL_V1 : w5.heap.size < V1.heap.size := Nat.lt_of_lt_of_le otL_w8 hbd.size
    have no0_V1 := (hbd.cell noL_w8).trans no0_w8
    have no1_V1 := (hbd.cell noL_w8).trans no1_w8
    have no2_V1 := (hbd.cell noL_w8).trans no2_w8
    have no3_V1 := (hbd.cell noL_w8).trans no3_w8
    have noF_V1 : ∀ o, V1.frozen? ⟨w5.heap.size + 1, o, none⟩ = false := fun o => (hbd.frozen noL_w8).trans (noF_w8 o)
    have noL_V1 : w5.heap.size + 1 < V1.heap.size := Nat.lt_of_lt_of_le noL_w8 hbd.size
    have oP_V1 := hidP (OwnG.later oP_w8.out hbd)
    have oQ_V1 := hidP (OwnG.later oQ_w8.out hbd)
    have acc_V1 := hidP (acc_w8.out.trans (hbd.mono acc_w8.out.size))
    have sz_V1 : Hid (w8.heap.size ≤ V1.heap.size) := hidP hbd.size
    clear hbd rs0_w8 rs1_w8 rsF_w8 rsL_w8 rp0_w8 rp1_w8 rp2_w8 rp3_w8 rpF_w8 rpL_w8 ot0_w8 ot1_w8 otF_w8 otL_w8 no0_w8 no1_w8 no2_w8 no3_w8 noF_w8 noL_w8 oP_w8 oQ_w8 acc_w8
    have HOR2 := hidP (And.intro HOR1.out (And.intro as_W6.out (And.intro sz_W6.out (And.intro as_W7.out (And.intro sz_W7.out (And.intro sz_w8.out sz_V1.out))))))
    clear HOR1 sz_W6 sz_W7 sz_w8 sz_V1
    refine tk 0 31 rfl ?_
    simp only [pa]
    refine tk 1 32 rfl ?_
    simp only [pa]
    refine wpAnyH_ready (rs := [2]) (by kernel_rfl) (by simp) ?_
    refine AllReadyH.cons rfl (fun K hK => ?_) AllReadyH.nil
    go_simp
    have nxrp : w.heap.size + 1 + 1 + 1 ≠ w.heap.size + 1 + 1 := (by have := HOR2.out; omega)
    have nxot : w5.heap.size ≠ w.heap.size + 1 + 1 := (by have := HOR2.out; omega)
    have nxno : w5.heap.size + 1 ≠ w.heap.size + 1 + 1 := (by have := HOR2.out; omega)
    refine hK.out _ _ ?_ (fun hHeld => ?_)
    · try dsimp only
      exact ⟨(cellC (cellC ot0_V1 nxot) nxot), (cellC (cellC ot1_V1 nxot) nxot), (cellC (cellC no0_V1 nxno) nxno), (cellC (cellC no1_V1 nxno) nxno), (cellC (cellC no2_V1 nxno) nxno), (cellC (cellC no3_V1 nxno) nxno)⟩
    clear hK K
    have ryP : ∀ k, (Value.slice a5 np c5).ownBlock = some k → some (w.heap.size + 1 + 1) ≠ some k := (fun k hk e => by have h5 := lhP.out k hk; have h6 := Option.some.inj e; have := HOR2.out; omega)
    have ryQ : ∀ k, (Value.slice b5 nb d5).ownBlock = some k → some (w.heap.size + 1 + 1) ≠ some k := (fun k hk e => by have h5 := lhQ.out k hk; have h6 := Option.some.inj e; have := HOR2.out; omega)
    have lw : w.heap.size ≤ w.heap.size + 1 + 1 := (by have := HOR2.out; omega)
    generalize hWn : (V1.setCell ⟨w.heap.size + 1 + 1, 0, none⟩ (.slice a5 np c5)).setCell ⟨w.heap.size + 1 + 1, 1, none⟩ (.slice b5 nb d5) = V2 at *
    have rs0_V2 : V2.cell? ⟨w.heap.size + 1 + 1, 0, none⟩ = some (.slice a5 np c5) := by rw [← hWn]; simp [go_sem, rs0_V1]
    have rs1_V2 : V2.cell? ⟨w.heap.size + 1 + 1, 1, none⟩ = some (.slice b5 nb d5) := by rw [← hWn]; simp [go_sem, rs1_V1]
    have rsF_V2 : ∀ o, V2.frozen? ⟨w.heap.size + 1 + 1, o, none⟩ = false := fun o => by rw [← hWn]; exact (frzC (frzC (rsF_V1 o)))
    have rsL_V2 : w.heap.size + 1 + 1 < V2.heap.size := by rw [← hWn]; simpa using rsL_V1
    have rp0_V2 : V2.cell? ⟨w.heap.size + 1 + 1 + 1, 0, none⟩ = some (.bool false) := by rw [← hWn]; exact (cellC (cellC rp0_V1 nxrp) nxrp)
    have rp1_V2 : V2.cell? ⟨w.heap.size + 1 + 1 + 1, 1, none⟩ = some (.int .i64 0) := by rw [← hWn]; exact (cellC (cellC rp1_V1 nxrp) nxrp)
    have rp2_V2 : V2.cell? ⟨w.heap.size + 1 + 1 + 1, 2, none⟩ = some (.int .i64 0) := by rw [← hWn]; exact (cellC (cellC rp2_V1 nxrp) nxrp)
    have rp3_V2 : V2.cell? ⟨w.heap.size + 1 + 1 + 1, 3, none⟩ = some (.int .i64 0) := by rw [← hWn]; exact (cellC (cellC rp3_V1 nxrp) nxrp)
    have rpF_V2 : ∀ o, V2.frozen? ⟨w.heap.size + 1 + 1 + 1, o, none⟩ = false := fun o => by rw [← hWn]; exact (frzC (frzC (rpF_V1 o)))
    have rpL_V2 : w.heap.size + 1 + 1 + 1 < V2.heap.size := by rw [← hWn]; simpa using rpL_V1
    have ot0_V2 : V2.cell? ⟨w5.heap.size, 0, none⟩ = some (.slice a5 np c5) := by rw [← hWn]; exact (cellC (cellC ot0_V1 nxot) nxot)
    have ot1_V2 : V2.cell? ⟨w5.heap.size, 1, none⟩ = some (.slice b5 nb d5) := by rw [← hWn]; exact (cellC (cellC ot1_V1 nxot) nxot)
    have otF_V2 : ∀ o, V2.frozen? ⟨w5.heap.size, o, none⟩ = false := fun o => by rw [← hWn]; exact (frzC (frzC (otF_V1 o)))
    have otL_V2 : w5.heap.size < V2.heap.size := by rw [← hWn]; simpa using otL_V1
    have no0_V2 : V2.cell? ⟨w5.heap.size + 1, 0, none⟩ = some (.bool false) := by rw [← hWn]; exact (cellC (cellC no0_V1 nxno) nxno)
    have no1_V2 : V2.cell? ⟨w5.heap.size + 1, 1, none⟩ = some (.int .i64 0) := by rw [← hWn]; exact (cellC (cellC no1_V1 nxno) nxno)
    have no2_V2 : V2.cell? ⟨w5.heap.size + 1, 2, none⟩ = some (.int .i64 0) := by rw [← hWn]; exact (cellC (cellC no2_V1 nxno) nxno)
    have no3_V2 : V2.cell? ⟨w5.heap.size + 1, 3, none⟩ = some (.int .i64 0) := by rw [← hWn]; exact (cellC (cellC no3_V1 nxno) nxno)
    have noF_V2 : ∀ o, V2.frozen? ⟨w5.heap.size + 1, o, none⟩ = false := fun o => by rw [← hWn]; exact (frzC (frzC (noF_V1 o)))
    have noL_V2 : w5.heap.size + 1 < V2.heap.size := by rw [← hWn]; simpa using noL_V1
    have oP_V2 : Hid (OwnG KPl 46 V2 (W4.heap.size) (.slice a5 np c5) (ps)) := hidP (by rw [← hWn]; exact (OwnG.grown (OwnG.grown oP_V1.out (grown_cellG _ _ _ _) ryP) (grown_cellG _ _ _ _) ryP))
    have oQ_V2 : Hid (OwnG KBk 38 V2 (W4.heap.size) (.slice b5 nb d5) (bs)) := hidP (by rw [← hWn]; exact (OwnG.grown (OwnG.grown oQ_V1.out (grown_cellG _ _ _ _) ryQ) (grown_cellG _ _ _ _) ryQ))
    have acc_V2 : Hid (Below w.heap.size w V2) := hidP (by rw [← hWn]; exact (Below.setCell (Below.setCell acc_V1.out lw _) lw _))
    have sz_V2 : Hid (V2.heap.size = V1.heap.size) := hidP (by rw [← hWn]; simp)
    clear hWn nxrp nxot nxno ryP ryQ lw rs0_V1 rs1_V1 rsF_V1 rsL_V1 rp0_V1 rp1_V1 rp2_V1 rp3_V1 rpF_V1 rpL_V1 ot0_V1 ot1_V1 otF_V1 otL_V1 no0_V1 no1_V1 no2_V1 no3_V1 noF_V1 noL_V1 oP_V1 oQ_V1 acc_V1
    refine wpAnyH_ready (rs := [3]) (by kernel_rfl) (by simp) ?_
    refine AllReadyH.cons rfl (fun K hK => ?_) AllReadyH.nil
    go_simp
    have nxrs : w.heap.size + 1 + 1 ≠ w.heap.size + 1 + 1 + 1 := (by have := HOR2.out; have := sz_V2.out; omega)
    have nxot : w5.heap.size ≠ w.heap.size + 1 + 1 + 1 := (by have := HOR2.out; have := sz_V2.out; omega)
    have nxno : w5.heap.size + 1 ≠ w.heap.size + 1 + 1 + 1 := (by have := HOR2.out; have := sz_V2.out; omega)
    refine hK.out _ _ ?_ (fun hHeld => ?_)
    · try dsimp only
      exact ⟨(cellC (cellC (cellC (cellC ot0_V2 nxot) nxot) nxot) nxot), (cellC (cellC (cellC (cellC ot1_V2 nxot) nxot) nxot) nxot), (cellC (cellC (cellC (cellC no0_V2 nxno) nxno) nxno) nxno), (cellC (cellC (cellC (cellC no1_V2 nxno) nxno) nxno) nxno), (cellC (cellC (cellC (cellC no2_V2 nxno) nxno) nxno) nxno), (cellC (cellC (cellC (cellC no3_V2 nxno) nxno) nxno) nxno)⟩
    clear hK K
    clear nxot nxno
    clear ot0_V2 ot1_V2 otF_V2 otL_V2
    clear no0_V2 no1_V2 no2_V2 no3_V2 noF_V2 noL_V2
    have ryP : ∀ k, (Value.slice a5 np c5).ownBlock = some k → some (w.heap.size + 1 + 1 + 1) ≠ some k := (fun k hk e => by have h5 := lhP.out k hk; have h6 := Option.some.inj e; have := HOR2.out; have := sz_V2.out; omega)
    have ryQ : ∀ k, (Value.slice b5 nb d5).ownBlock = some k → some (w.heap.size + 1 + 1 + 1) ≠ some k := (fun k hk e => by have h5 := lhQ.out k hk; have h6 := Option.some.inj e; have := HOR2.out; have := sz_V2.out; omega)
    have lw : w.heap.size ≤ w.heap.size + 1 + 1 + 1 := (by have := HOR2.out; have := sz_V2.out; omega)
    generalize hWn : (((V2.setCell ⟨w.heap.size + 1 + 1 + 1, 0, none⟩ (.bool false)).setCell ⟨w.heap.size + 1 + 1 + 1, 1, none⟩ (.int .i64 0)).setCell ⟨w.heap.size + 1 + 1 + 1, 2, none⟩ (.int .i64 0)).setCell ⟨w.heap.size + 1 + 1 + 1, 3, none⟩ (.int .i64 0) = V3 at *
    have rp0_V3 : V3.cell? ⟨w.heap.size + 1 + 1 + 1, 0, none⟩ = some (.bool false) := by rw [← hWn]; simp [go_sem, rp0_V2]
    have rp1_V3 : V3.cell? ⟨w.heap.size + 1 + 1 + 1, 1, none⟩ = some (.int .i64 0) := by rw [← hWn]; simp [go_sem, rp1_V2]
    have rp2_V3 : V3.cell? ⟨w.heap.size + 1 + 1 + 1, 2, none⟩ = some (.int .i64 0) := by rw [← hWn]; simp [go_sem, rp2_V2]
    have rp3_V3 : V3.cell? ⟨w.heap.size + 1 + 1 + 1, 3, none⟩ = some (.int .i64 0) := by rw [← hWn]; simp [go_sem, rp3_V2]
    have rs0_V3 : V3.cell? ⟨w.heap.size + 1 + 1, 0, none⟩ = some (.slice a5 np c5) := by rw [← hWn]; exact (cellC (cellC (cellC (cellC rs0_V2 nxrs) nxrs) nxrs) nxrs)
    have rs1_V3 : V3.cell? ⟨w.heap.size + 1 + 1, 1, none⟩ = some (.slice b5 nb d5) := by rw [← hWn]; exact (cellC (cellC (cellC (cellC rs1_V2 nxrs) nxrs) nxrs) nxrs)
    have rsF_V3 : ∀ o, V3.frozen? ⟨w.heap.size + 1 + 1, o, none⟩ = false := fun o => by rw [← hWn]; exact (frzC (frzC (frzC (frzC (rsF_V2 o)))))
    have rsL_V3 : w.heap.size + 1 + 1 < V3.heap.size := by rw [← hWn]; simpa using rsL_V2
    have rpF_V3 : ∀ o, V3.frozen? ⟨w.heap.size + 1 + 1 + 1, o, none⟩ = false := fun o => by rw [← hWn]; exact (frzC (frzC (frzC (frzC (rpF_V2 o)))))
    have rpL_V3 : w.heap.size + 1 + 1 + 1 < V3.heap.size := by rw [← hWn]; simpa using rpL_V2
    have oP_V3 : Hid (OwnG KPl 46 V3 (W4.heap.size) (.slice a5 np c5) (ps)) := hidP (by rw [← hWn]; exact (OwnG.grown (OwnG.grown (OwnG.grown (OwnG.grown oP_V2.out (grown_cellG _ _ _ _) ryP) (grown_cellG _ _ _ _) ryP) (grown_cellG _ _ _ _) ryP) (grown_cellG _ _ _ _) ryP))
    have oQ_V3 : Hid (OwnG KBk 38 V3 (W4.heap.size) (.slice b5 nb d5) (bs)) := hidP (by rw [← hWn]; exact (OwnG.grown (OwnG.grown (OwnG.grown (OwnG.grown oQ_V2.out (grown_cellG _ _ _ _) ryQ) (grown_cellG _ _ _ _) ryQ) (grown_cellG _ _ _ _) ryQ) (grown_cellG _ _ _ _) ryQ))
    have acc_V3 : Hid (Below w.heap.size w V3) := hidP (by rw [← hWn]; exact (Below.setCell (Below.setCell (Below.setCell (Below.setCell acc_V2.out lw _) lw _) lw _) lw _))
    have sz_V3 : Hid (V3.heap.size = V2.heap.size) := hidP (by rw [← hWn]; simp)
    clear hWn nxrs ryP ryQ lw rp0_V2 rp1_V2 rp2_V2 rp3_V2 rs0_V2 rs1_V2 rsF_V2 rsL_V2 rpF_V2 rpL_V2 oP_V2 oQ_V2 acc_V2
    refine tk 4 8 rfl ?_
    simp only [pa]
    refine wpAnyH_done (by kernel_rfl) ?_ _
    clear hHeld
    go_wp2_with fail
    have eO := HO.out.trans (cv1 H1.out)
    subst eO
    refine bodyPost_ret (v := .tuple #[.agg #[.slice a5 np c5, .slice b5 nb d5], .agg #[.bool false, .int .i64 0, .int .i64 0, .int .i64 0], .int .i64 1]) (by simp [results, Tryz.results9, go_sem, rs0_V3, rs1_V3, rp0_V3, rp1_V3, rp2_V3, rp3_V3]) rfl ⟨_, _, _, _, _, rfl, ?_, ?_, ?_, ?_, ?_⟩
    · exact HN.out.2
    · have hB : w.heap.size + 1 + 1 + 1 < W4.heap.size ∧ w.heap.size ≤ W4.heap.size := (by have := HOR2.out; have := sz_V2.out; have := sz_V3.out; omega)
      refine OwnG.mono (B := W4.heap.size) ?_ hB.2
      repeat (first | (with_reducible refine OwnG.drewC ?_) | (with_reducible refine OwnG.grown ?_ (grown_cellG _ _ _ _) ?_; rotate_left; (focus (exact OwnG.ne_ofC oP_V3.out (by omega)))))
      with_reducible exact oP_V3.out
    · have hB : w.heap.size + 1 + 1 + 1 < W4.heap.size ∧ w.heap.size ≤ W4.heap.size := (by have := HOR2.out; have := sz_V2.out; have := sz_V3.out; omega)
      refine OwnG.mono (B := W4.heap.size) ?_ hB.2
      repeat (first | (with_reducible refine OwnG.drewC ?_) | (with_reducible refine OwnG.grown ?_ (grown_cellG _ _ _ _) ?_; rotate_left; (focus (exact OwnG.ne_ofC oQ_V3.out (by omega)))))
      with_reducible exact oQ_V3.out
    · exact ne5.out
    · repeat (first | (with_reducible refine Below.drew ?_) | (with_reducible refine Below.setCell ?_ ?_ _; rotate_left; (focus (first | (simp; done) | (simp; omega) | (dsimp only; have := HOR2.out; have := sz_V2.out; have := sz_V3.out; omega)))))
      exact acc_V3.out
  go_wp2_with fail
  refine (HPk.out _).mono ?_
  rintro e w9 ⟨rfl, hb9⟩
  have rsP_w9 := hidP (rsP_w8.out.later hb9)
  have rpP_w9 := hidP (rpP_w8.out.later hb9)
  have noP_w9 := hidP (noP_w8.out.later hb9)
  have otP_w9 := hidP (otP_w8.out.later hb9)
  clear rsP_w8 rpP_w8 noP_w8 otP_w8
  have pb0_w9 := (hb9.cell pbL_w8).trans pb0_w8
  have pb1_w9 := (hb9.cell pbL_w8).trans pb1_w8
  have pbF_w9 : ∀ o, w9.frozen? ⟨w.heap.size, o, none⟩ = false := fun o => (hb9.frozen pbL_w8).trans (pbF_w8 o)
  have pbL_w9 : w.heap.size < w9.heap.size := Nat.lt_of_lt_of_le pbL_w8 hb9.size
  have at0_w9 := (hb9.cell atL_w8).trans at0_w8
  have at1_w9 := (hb9.cell atL_w8).trans at1_w8
  have at2_w9 := (hb9.cell atL_w8).trans at2_w8
  have at3_w9 := (hb9.cell atL_w8).trans at3_w8
  have atF_w9 : ∀ o, w9.frozen? ⟨w.heap.size + 1, o, none⟩ = false := fun o => (hb9.frozen atL_w8).trans (atF_w8 o)
  have atL_w9 : w.heap.size + 1 < w9.heap.size := Nat.lt_of_lt_of_le atL_w8 hb9.size
  have oP_w9 := hidP (OwnG.later oP_w8.out hb9)
  have oQ_w9 := hidP (OwnG.later oQ_w8.out hb9)
  have acc_w9 := hidP (acc_w8.out.trans (hb9.mono acc_w8.out.size))
  have sz_w9 : Hid (w8.heap.size ≤ w9.heap.size) := hidP hb9.size
  clear hb9 pb0_w8 pb1_w8 pbF_w8 pbL_w8 at0_w8 at1_w8 at2_w8 at3_w8 atF_w8 atL_w8 oP_w8 oQ_w8 acc_w8
  have HOR2 := hidP (And.intro HOR1.out (And.intro as_W6.out (And.intro sz_W6.out (And.intro as_W7.out (And.intro sz_W7.out (And.intro sz_w8.out sz_w9.out))))))
  clear HOR1 sz_W6 sz_W7 sz_w8 sz_w9
  cases r2
  · go_wp2_with fail
    clear pb0_w9 pb1_w9 pbF_w9 pbL_w9
    clear at0_w9 at1_w9 at2_w9 at3_w9 atF_w9 atL_w9
    have rs0_w9 := rsP_w9.out.1 0 _ rfl
    have rs1_w9 := rsP_w9.out.1 1 _ rfl
    have rsF_w9 := rsP_w9.out.2.1
    have rsL_w9 := rsP_w9.out.2.2
    clear rsP_w9
    have rp0_w9 := rpP_w9.out.1 0 _ rfl
    have rp1_w9 := rpP_w9.out.1 1 _ rfl
    have rp2_w9 := rpP_w9.out.1 2 _ rfl
    have rp3_w9 := rpP_w9.out.1 3 _ rfl
    have rpF_w9 := rpP_w9.out.2.1
    have rpL_w9 := rpP_w9.out.2.2
    clear rpP_w9
    have ot0_w9 := otP_w9.out.1 0 _ rfl
    have ot1_w9 := otP_w9.out.1 1 _ rfl
    have otF_w9 := otP_w9.out.2.1
    have otL_w9 := otP_w9.out.2.2
    clear otP_w9
    have no0_w9 := noP_w9.out.1 0 _ rfl
    have no1_w9 := noP_w9.out.1 1 _ rfl
    have no2_w9 := noP_w9.out.1 2 _ rfl
    have no3_w9 := noP_w9.out.1 3 _ rfl
    have noF_w9 := noP_w9.out.2.1
    have noL_w9 := noP_w9.out.2.2
    clear noP_w9
    have hbd := (Below.refl w9.heap.size w9).drew
    refine wp_region_held_drew (S := (fun x => x.cell? ⟨w5.heap.size, 0, none⟩ = some (.slice a5 np c5) ∧ x.cell? ⟨w5.heap.size, 1, none⟩ = some (.slice b5 nb d5) ∧ x.cell? ⟨w5.heap.size + 1, 0, none⟩ = some (.bool false) ∧ x.cell? ⟨w5.heap.size + 1, 1, none⟩ = some (.int .i64 0) ∧ x.cell? ⟨w5.heap.size + 1, 2, none⟩ = some (.int .i64 0) ∧ x.cell? ⟨w5.heap.size + 1, 3, none⟩ = some (.int .i64 0))) (by kernel_rfl) ?_ (fun hHeld => ?_)
    · try dsimp only
      exact ⟨(hbd.cell otL_w9).trans ot0_w9, (hbd.cell otL_w9).trans ot1_w9, (hbd.cell noL_w9).trans no0_w9, (hbd.cell noL_w9).trans no1_w9, (hbd.cell noL_w9).trans no2_w9, (hbd.cell noL_w9).trans no3_w9⟩
    generalize w9.drew = V1 at *
    have rs0_V1 := (hbd.cell rsL_w9).trans rs0_w9
    have rs1_V1 := (hbd.cell rsL_w9).trans rs1_w9
    have rsF_V1 : ∀ o, V1.frozen? ⟨w.heap.size + 1 + 1, o, none⟩ = false := fun o => (hbd.frozen rsL_w9).trans (rsF_w9 o)
    have rsL_V1 : w.heap.size + 1 + 1 < V1.heap.size := Nat.lt_of_lt_of_le rsL_w9 hbd.size
    have rp0_V1 := (hbd.cell rpL_w9).trans rp0_w9
    have rp1_V1 := (hbd.cell rpL_w9).trans rp1_w9
    have rp2_V1 := (hbd.cell rpL_w9).trans rp2_w9
    have rp3_V1 := (hbd.cell rpL_w9).trans rp3_w9
    have rpF_V1 : ∀ o, V1.frozen? ⟨w.heap.size + 1 + 1 + 1, o, none⟩ = false := fun o => (hbd.frozen rpL_w9).trans (rpF_w9 o)
    have rpL_V1 : w.heap.size + 1 + 1 + 1 < V1.heap.size := Nat.lt_of_lt_of_le rpL_w9 hbd.size
    have ot0_V1 := (hbd.cell otL_w9).trans ot0_w9
    have ot1_V1 := (hbd.cell otL_w9).trans ot1_w9
    have otF_V1 : ∀ o, V1.frozen? ⟨w5.heap.size, o, none⟩ = false := fun o => (hbd.frozen otL_w9).trans (otF_w9 o)
    have otL_V1 : w5.heap.size < V1.heap.size := Nat.lt_of_lt_of_le otL_w9 hbd.size
    have no0_V1 := (hbd.cell noL_w9).trans no0_w9
    have no1_V1 := (hbd.cell noL_w9).trans no1_w9
    have no2_V1 := (hbd.cell noL_w9).trans no2_w9
    have no3_V1 := (hbd.cell noL_w9).trans no3_w9
    have noF_V1 : ∀ o, V1.frozen? ⟨w5.heap.size + 1, o, none⟩ = false := fun o => (hbd.frozen noL_w9).trans (noF_w9 o)
    have noL_V1 : w5.heap.size + 1 < V1.heap.size := Nat.lt_of_lt_of_le noL_w9 hbd.size
    have oP_V1 := hidP (OwnG.later oP_w9.out hbd)
    have oQ_V1 := hidP (OwnG.later oQ_w9.out hbd)
    have acc_V1 := hidP (acc_w9.out.trans (hbd.mono acc_w9.out.size))
    have sz_V1 : Hid (w9.heap.size ≤ V1.heap.size) := hidP hbd.size
    clear hbd rs0_w9 rs1_w9 rsF_w9 rsL_w9 rp0_w9 rp1_w9 rp2_w9 rp3_w9 rpF_w9 rpL_w9 ot0_w9 ot1_w9 otF_w9 otL_w9 no0_w9 no1_w9 no2_w9 no3_w9 noF_w9 noL_w9 oP_w9 oQ_w9 acc_w9
    refine tk 0 31 rfl ?_
    simp only [pa]
    refine tk 1 32 rfl ?_
    simp only [pa]
    refine wpAnyH_ready (rs := [2]) (by kernel_rfl) (by simp) ?_
    refine AllReadyH.cons rfl (fun K hK => ?_) AllReadyH.nil
    go_simp
    have nxrp : w.heap.size + 1 + 1 + 1 ≠ w.heap.size + 1 + 1 := (by have := HOR2.out; have := sz_V1.out; omega)
    have nxot : w5.heap.size ≠ w.heap.size + 1 + 1 := (by have := HOR2.out; have := sz_V1.out; omega)
    have nxno : w5.heap.size + 1 ≠ w.heap.size + 1 + 1 := (by have := HOR2.out; have := sz_V1.out; omega)
    refine hK.out _ _ ?_ (fun hHeld => ?_)
    · try dsimp only
      exact ⟨(cellC (cellC ot0_V1 nxot) nxot), (cellC (cellC ot1_V1 nxot) nxot), (cellC (cellC no0_V1 nxno) nxno), (cellC (cellC no1_V1 nxno) nxno), (cellC (cellC no2_V1 nxno) nxno), (cellC (cellC no3_V1 nxno) nxno)⟩
    clear hK K
    have ryP : ∀ k, (Value.slice a5 np c5).ownBlock = some k → some (w.heap.size + 1 + 1) ≠ some k := (fun k hk e => by have h5 := lhP.out k hk; have h6 := Option.some.inj e; have := HOR2.out; have := sz_V1.out; omega)
    have ryQ : ∀ k, (Value.slice b5 nb d5).ownBlock = some k → some (w.heap.size + 1 + 1) ≠ some k := (fun k hk e => by have h5 := lhQ.out k hk; have h6 := Option.some.inj e; have := HOR2.out; have := sz_V1.out; omega)
    have lw : w.heap.size ≤ w.heap.size + 1 + 1 := (by have := HOR2.out; have := sz_V1.out; omega)
    generalize hWn : (V1.setCell ⟨w.heap.size + 1 + 1, 0, none⟩ (.slice a5 np c5)).setCell ⟨w.heap.size + 1 + 1, 1, none⟩ (.slice b5 nb d5) = V2 at *
    have rs0_V2 : V2.cell? ⟨w.heap.size + 1 + 1, 0, none⟩ = some (.slice a5 np c5) := by rw [← hWn]; simp [go_sem, rs0_V1]
    have rs1_V2 : V2.cell? ⟨w.heap.size + 1 + 1, 1, none⟩ = some (.slice b5 nb d5) := by rw [← hWn]; simp [go_sem, rs1_V1]
    have rsF_V2 : ∀ o, V2.frozen? ⟨w.heap.size + 1 + 1, o, none⟩ = false := fun o => by rw [← hWn]; exact (frzC (frzC (rsF_V1 o)))
    have rsL_V2 : w.heap.size + 1 + 1 < V2.heap.size := by rw [← hWn]; simpa using rsL_V1
    have rp0_V2 : V2.cell? ⟨w.heap.size + 1 + 1 + 1, 0, none⟩ = some (.bool false) := by rw [← hWn]; exact (cellC (cellC rp0_V1 nxrp) nxrp)
    have rp1_V2 : V2.cell? ⟨w.heap.size + 1 + 1 + 1, 1, none⟩ = some (.int .i64 0) := by rw [← hWn]; exact (cellC (cellC rp1_V1 nxrp) nxrp)
    have rp2_V2 : V2.cell? ⟨w.heap.size + 1 + 1 + 1, 2, none⟩ = some (.int .i64 0) := by rw [← hWn]; exact (cellC (cellC rp2_V1 nxrp) nxrp)
    have rp3_V2 : V2.cell? ⟨w.heap.size + 1 + 1 + 1, 3, none⟩ = some (.int .i64 0) := by rw [← hWn]; exact (cellC (cellC rp3_V1 nxrp) nxrp)
    have rpF_V2 : ∀ o, V2.frozen? ⟨w.heap.size + 1 + 1 + 1, o, none⟩ = false := fun o => by rw [← hWn]; exact (frzC (frzC (rpF_V1 o)))
    have rpL_V2 : w.heap.size + 1 + 1 + 1 < V2.heap.size := by rw [← hWn]; simpa using rpL_V1
    have ot0_V2 : V2.cell? ⟨w5.heap.size, 0, none⟩ = some (.slice a5 np c5) := by rw [← hWn]; exact (cellC (cellC ot0_V1 nxot) nxot)
    have ot1_V2 : V2.cell? ⟨w5.heap.size, 1, none⟩ = some (.slice b5 nb d5) := by rw [← hWn]; exact (cellC (cellC ot1_V1 nxot) nxot)
    have otF_V2 : ∀ o, V2.frozen? ⟨w5.heap.size, o, none⟩ = false := fun o => by rw [← hWn]; exact (frzC (frzC (otF_V1 o)))
    have otL_V2 : w5.heap.size < V2.heap.size := by rw [← hWn]; simpa using otL_V1
    have no0_V2 : V2.cell? ⟨w5.heap.size + 1, 0, none⟩ = some (.bool false) := by rw [← hWn]; exact (cellC (cellC no0_V1 nxno) nxno)
    have no1_V2 : V2.cell? ⟨w5.heap.size + 1, 1, none⟩ = some (.int .i64 0) := by rw [← hWn]; exact (cellC (cellC no1_V1 nxno) nxno)
    have no2_V2 : V2.cell? ⟨w5.heap.size + 1, 2, none⟩ = some (.int .i64 0) := by rw [← hWn]; exact (cellC (cellC no2_V1 nxno) nxno)
    have no3_V2 : V2.cell? ⟨w5.heap.size + 1, 3, none⟩ = some (.int .i64 0) := by rw [← hWn]; exact (cellC (cellC no3_V1 nxno) nxno)
    have noF_V2 : ∀ o, V2.frozen? ⟨w5.heap.size + 1, o, none⟩ = false := fun o => by rw [← hWn]; exact (frzC (frzC (noF_V1 o)))
    have noL_V2 : w5.heap.size + 1 < V2.heap.size := by rw [← hWn]; simpa using noL_V1
    have oP_V2 : Hid (OwnG KPl 46 V2 (W4.heap.size) (.slice a5 np c5) (ps)) := hidP (by rw [← hWn]; exact (OwnG.grown (OwnG.grown oP_V1.out (grown_cellG _ _ _ _) ryP) (grown_cellG _ _ _ _) ryP))
    have oQ_V2 : Hid (OwnG KBk 38 V2 (W4.heap.size) (.slice b5 nb d5) (bs)) := hidP (by rw [← hWn]; exact (OwnG.grown (OwnG.grown oQ_V1.out (grown_cellG _ _ _ _) ryQ) (grown_cellG _ _ _ _) ryQ))
    have acc_V2 : Hid (Below w.heap.size w V2) := hidP (by rw [← hWn]; exact (Below.setCell (Below.setCell acc_V1.out lw _) lw _))
    have sz_V2 : Hid (V2.heap.size = V1.heap.size) := hidP (by rw [← hWn]; simp)
    clear hWn nxrp nxot nxno ryP ryQ lw rs0_V1 rs1_V1 rsF_V1 rsL_V1 rp0_V1 rp1_V1 rp2_V1 rp3_V1 rpF_V1 rpL_V1 ot0_V1 ot1_V1 otF_V1 otL_V1 no0_V1 no1_V1 no2_V1 no3_V1 noF_V1 noL_V1 oP_V1 oQ_V1 acc_V1
    refine wpAnyH_ready (rs := [3]) (by kernel_rfl) (by simp) ?_
    refine AllReadyH.cons rfl (fun K hK => ?_) AllReadyH.nil
    go_simp
    have nxrs : w.heap.size + 1 + 1 ≠ w.heap.size + 1 + 1 + 1 := (by have := HOR2.out; have := sz_V1.out; have := sz_V2.out; omega)
    have nxot : w5.heap.size ≠ w.heap.size + 1 + 1 + 1 := (by have := HOR2.out; have := sz_V1.out; have := sz_V2.out; omega)
    have nxno : w5.heap.size + 1 ≠ w.heap.size + 1 + 1 + 1 := (by have := HOR2.out; have := sz_V1.out; have := sz_V2.out; omega)
    refine hK.out _ _ ?_ (fun hHeld => ?_)
    · try dsimp only
      exact ⟨(cellC (cellC (cellC (cellC ot0_V2 nxot) nxot) nxot) nxot), (cellC (cellC (cellC (cellC ot1_V2 nxot) nxot) nxot) nxot), (cellC (cellC (cellC (cellC no0_V2 nxno) nxno) nxno) nxno), (cellC (cellC (cellC (cellC no1_V2 nxno) nxno) nxno) nxno), (cellC (cellC (cellC (cellC no2_V2 nxno) nxno) nxno) nxno), (cellC (cellC (cellC (cellC no3_V2 nxno) nxno) nxno) nxno)⟩
    clear hK K
    clear nxot nxno
    clear ot0_V2 ot1_V2 otF_V2 otL_V2
    clear no0_V2 no1_V2 no2_V2 no3_V2 noF_V2 noL_V2
    have ryP : ∀ k, (Value.slice a5 np c5).ownBlock = some k → some (w.heap.size + 1 + 1 + 1) ≠ some k := (fun k hk e => by have h5 := lhP.out k hk; have h6 := Option.some.inj e; have := HOR2.out; have := sz_V1.out; have := sz_V2.out; omega)
    have ryQ : ∀ k, (Value.slice b5 nb d5).ownBlock = some k → some (w.heap.size + 1 + 1 + 1) ≠ some k := (fun k hk e => by have h5 := lhQ.out k hk; have h6 := Option.some.inj e; have := HOR2.out; have := sz_V1.out; have := sz_V2.out; omega)
    have lw : w.heap.size ≤ w.heap.size + 1 + 1 + 1 := (by have := HOR2.out; have := sz_V1.out; have := sz_V2.out; omega)
    generalize hWn : (((V2.setCell ⟨w.heap.size + 1 + 1 + 1, 0, none⟩ (.bool false)).setCell ⟨w.heap.size + 1 + 1 + 1, 1, none⟩ (.int .i64 0)).setCell ⟨w.heap.size + 1 + 1 + 1, 2, none⟩ (.int .i64 0)).setCell ⟨w.heap.size + 1 + 1 + 1, 3, none⟩ (.int .i64 0) = V3 at *
    have rp0_V3 : V3.cell? ⟨w.heap.size + 1 + 1 + 1, 0, none⟩ = some (.bool false) := by rw [← hWn]; simp [go_sem, rp0_V2]
    have rp1_V3 : V3.cell? ⟨w.heap.size + 1 + 1 + 1, 1, none⟩ = some (.int .i64 0) := by rw [← hWn]; simp [go_sem, rp1_V2]
    have rp2_V3 : V3.cell? ⟨w.heap.size + 1 + 1 + 1, 2, none⟩ = some (.int .i64 0) := by rw [← hWn]; simp [go_sem, rp2_V2]
    have rp3_V3 : V3.cell? ⟨w.heap.size + 1 + 1 + 1, 3, none⟩ = some (.int .i64 0) := by rw [← hWn]; simp [go_sem, rp3_V2]
    have rs0_V3 : V3.cell? ⟨w.heap.size + 1 + 1, 0, none⟩ = some (.slice a5 np c5) := by rw [← hWn]; exact (cellC (cellC (cellC (cellC rs0_V2 nxrs) nxrs) nxrs) nxrs)
    have rs1_V3 : V3.cell? ⟨w.heap.size + 1 + 1, 1, none⟩ = some (.slice b5 nb d5) := by rw [← hWn]; exact (cellC (cellC (cellC (cellC rs1_V2 nxrs) nxrs) nxrs) nxrs)
    have rsF_V3 : ∀ o, V3.frozen? ⟨w.heap.size + 1 + 1, o, none⟩ = false := fun o => by rw [← hWn]; exact (frzC (frzC (frzC (frzC (rsF_V2 o)))))
    have rsL_V3 : w.heap.size + 1 + 1 < V3.heap.size := by rw [← hWn]; simpa using rsL_V2
    have rpF_V3 : ∀ o, V3.frozen? ⟨w.heap.size + 1 + 1 + 1, o, none⟩ = false := fun o => by rw [← hWn]; exact (frzC (frzC (frzC (frzC (rpF_V2 o)))))
    have rpL_V3 : w.heap.size + 1 + 1 + 1 < V3.heap.size := by rw [← hWn]; simpa using rpL_V2
    have oP_V3 : Hid (OwnG KPl 46 V3 (W4.heap.size) (.slice a5 np c5) (ps)) := hidP (by rw [← hWn]; exact (OwnG.grown (OwnG.grown (OwnG.grown (OwnG.grown oP_V2.out (grown_cellG _ _ _ _) ryP) (grown_cellG _ _ _ _) ryP) (grown_cellG _ _ _ _) ryP) (grown_cellG _ _ _ _) ryP))
    have oQ_V3 : Hid (OwnG KBk 38 V3 (W4.heap.size) (.slice b5 nb d5) (bs)) := hidP (by rw [← hWn]; exact (OwnG.grown (OwnG.grown (OwnG.grown (OwnG.grown oQ_V2.out (grown_cellG _ _ _ _) ryQ) (grown_cellG _ _ _ _) ryQ) (grown_cellG _ _ _ _) ryQ) (grown_cellG _ _ _ _) ryQ))
    have acc_V3 : Hid (Below w.heap.size w V3) := hidP (by rw [← hWn]; exact (Below.setCell (Below.setCell (Below.setCell (Below.setCell acc_V2.out lw _) lw _) lw _) lw _))
    have sz_V3 : Hid (V3.heap.size = V2.heap.size) := hidP (by rw [← hWn]; simp)
    clear hWn nxrs ryP ryQ lw rp0_V2 rp1_V2 rp2_V2 rp3_V2 rs0_V2 rs1_V2 rsF_V2 rsL_V2 rpF_V2 rpL_V2 oP_V2 oQ_V2 acc_V2
    refine tk 4 8 rfl ?_
    simp only [pa]
    refine wpAnyH_done (by kernel_rfl) ?_ _
    clear hHeld
    go_wp2_with fail
    have eO := HO.out.trans (cv2 H1.out H2.out)
    subst eO
    refine bodyPost_ret (v := .tuple #[.agg #[.slice a5 np c5, .slice b5 nb d5], .agg #[.bool false, .int .i64 0, .int .i64 0, .int .i64 0], .int .i64 1]) (by simp [results, Tryz.results9, go_sem, rs0_V3, rs1_V3, rp0_V3, rp1_V3, rp2_V3, rp3_V3]) rfl ⟨_, _, _, _, _, rfl, ?_, ?_, ?_, ?_, ?_⟩
    · exact HN.out.2
    · have hB : w.heap.size + 1 + 1 + 1 < W4.heap.size ∧ w.heap.size ≤ W4.heap.size := (by have := HOR2.out; have := sz_V1.out; have := sz_V2.out; have := sz_V3.out; omega)
      refine OwnG.mono (B := W4.heap.size) ?_ hB.2
      repeat (first | (with_reducible refine OwnG.drewC ?_) | (with_reducible refine OwnG.grown ?_ (grown_cellG _ _ _ _) ?_; rotate_left; (focus (exact OwnG.ne_ofC oP_V3.out (by omega)))))
      with_reducible exact oP_V3.out
    · have hB : w.heap.size + 1 + 1 + 1 < W4.heap.size ∧ w.heap.size ≤ W4.heap.size := (by have := HOR2.out; have := sz_V1.out; have := sz_V2.out; have := sz_V3.out; omega)
      refine OwnG.mono (B := W4.heap.size) ?_ hB.2
      repeat (first | (with_reducible refine OwnG.drewC ?_) | (with_reducible refine OwnG.grown ?_ (grown_cellG _ _ _ _) ?_; rotate_left; (focus (exact OwnG.ne_ofC oQ_V3.out (by omega)))))
      with_reducible exact oQ_V3.out
    · exact ne5.out
    · repeat (first | (with_reducible refine Below.drew ?_) | (with_reducible refine Below.setCell ?_ ?_ _; rotate_left; (focus (first | (simp; done) | (simp; omega) | (dsimp only; have := HOR2.out; have := sz_V1.out; have := sz_V2.out; have := sz_V3.out; omega)))))
      exact acc_V3.out
  go_wp2_with fail
  refine (HOO.out _).mono ?_
  rintro e w9' ⟨rfl, h9⟩
  have h9 := h9.symm
  subst h9
  cases r3
  · go_wp2_with fail
    clear pb0_w9 pb1_w9 pbF_w9 pbL_w9
    clear at0_w9 at1_w9 at2_w9 at3_w9 atF_w9 atL_w9
    have rs0_w9 := rsP_w9.out.1 0 _ rfl
    have rs1_w9 := rsP_w9.out.1 1 _ rfl
    have rsF_w9 := rsP_w9.out.2.1
    have rsL_w9 := rsP_w9.out.2.2
    clear rsP_w9
    have rp0_w9 := rpP_w9.out.1 0 _ rfl
    have rp1_w9 := rpP_w9.out.1 1 _ rfl
    have rp2_w9 := rpP_w9.out.1 2 _ rfl
    have rp3_w9 := rpP_w9.out.1 3 _ rfl
    have rpF_w9 := rpP_w9.out.2.1
    have rpL_w9 := rpP_w9.out.2.2
    clear rpP_w9
    have ot0_w9 := otP_w9.out.1 0 _ rfl
    have ot1_w9 := otP_w9.out.1 1 _ rfl
    have otF_w9 := otP_w9.out.2.1
    have otL_w9 := otP_w9.out.2.2
    clear otP_w9
    have no0_w9 := noP_w9.out.1 0 _ rfl
    have no1_w9 := noP_w9.out.1 1 _ rfl
    have no2_w9 := noP_w9.out.1 2 _ rfl
    have no3_w9 := noP_w9.out.1 3 _ rfl
    have noF_w9 := noP_w9.out.2.1
    have noL_w9 := noP_w9.out.2.2
    clear noP_w9
    have hbd := (Below.refl w9.heap.size w9).drew
    refine wp_region_held_drew (S := (fun x => x.cell? ⟨w5.heap.size, 0, none⟩ = some (.slice a5 np c5) ∧ x.cell? ⟨w5.heap.size, 1, none⟩ = some (.slice b5 nb d5) ∧ x.cell? ⟨w5.heap.size + 1, 0, none⟩ = some (.bool false) ∧ x.cell? ⟨w5.heap.size + 1, 1, none⟩ = some (.int .i64 0) ∧ x.cell? ⟨w5.heap.size + 1, 2, none⟩ = some (.int .i64 0) ∧ x.cell? ⟨w5.heap.size + 1, 3, none⟩ = some (.int .i64 0))) (by kernel_rfl) ?_ (fun hHeld => ?_)
    · try dsimp only
      exact ⟨(hbd.cell otL_w9).trans ot0_w9, (hbd.cell otL_w9).trans ot1_w9, (hbd.cell noL_w9).trans no0_w9, (hbd.cell noL_w9).trans no1_w9, (hbd.cell noL_w9).trans no2_w9, (hbd.cell noL_w9).trans no3_w9⟩
    generalize w9.drew = V1 at *
    have rs0_V1 := (hbd.cell rsL_w9).trans rs0_w9
    have rs1_V1 := (hbd.cell rsL_w9).trans rs1_w9
    have rsF_V1 : ∀ o, V1.frozen? ⟨w.heap.size + 1 + 1, o, none⟩ = false := fun o => (hbd.frozen rsL_w9).trans (rsF_w9 o)
    have rsL_V1 : w.heap.size + 1 + 1 < V1.heap.size := Nat.lt_of_lt_of_le rsL_w9 hbd.size
    have rp0_V1 := (hbd.cell rpL_w9).trans rp0_w9
    have rp1_V1 := (hbd.cell rpL_w9).trans rp1_w9
    have rp2_V1 := (hbd.cell rpL_w9).trans rp2_w9
    have rp3_V1 := (hbd.cell rpL_w9).trans rp3_w9
    have rpF_V1 : ∀ o, V1.frozen? ⟨w.heap.size + 1 + 1 + 1, o, none⟩ = false := fun o => (hbd.frozen rpL_w9).trans (rpF_w9 o)
    have rpL_V1 : w.heap.size + 1 + 1 + 1 < V1.heap.size := Nat.lt_of_lt_of_le rpL_w9 hbd.size
    have ot0_V1 := (hbd.cell otL_w9).trans ot0_w9
    have ot1_V1 := (hbd.cell otL_w9).trans ot1_w9
    have otF_V1 : ∀ o, V1.frozen? ⟨w5.heap.size, o, none⟩ = false := fun o => (hbd.frozen otL_w9).trans (otF_w9 o)
    have otL_V1 : w5.heap.size < V1.heap.size := Nat.lt_of_lt_of_le otL_w9 hbd.size
    have no0_V1 := (hbd.cell noL_w9).trans no0_w9
    have no1_V1 := (hbd.cell noL_w9).trans no1_w9
    have no2_V1 := (hbd.cell noL_w9).trans no2_w9
    have no3_V1 := (hbd.cell noL_w9).trans no3_w9
    have noF_V1 : ∀ o, V1.frozen? ⟨w5.heap.size + 1, o, none⟩ = false := fun o => (hbd.frozen noL_w9).trans (noF_w9 o)
    have noL_V1 : w5.heap.size + 1 < V1.heap.size := Nat.lt_of_lt_of_le noL_w9 hbd.size
    have oP_V1 := hidP (OwnG.later oP_w9.out hbd)
    have oQ_V1 := hidP (OwnG.later oQ_w9.out hbd)
    have acc_V1 := hidP (acc_w9.out.trans (hbd.mono acc_w9.out.size))
    have sz_V1 : Hid (w9.heap.size ≤ V1.heap.size) := hidP hbd.size
    clear hbd rs0_w9 rs1_w9 rsF_w9 rsL_w9 rp0_w9 rp1_w9 rp2_w9 rp3_w9 rpF_w9 rpL_w9 ot0_w9 ot1_w9 otF_w9 otL_w9 no0_w9 no1_w9 no2_w9 no3_w9 noF_w9 noL_w9 oP_w9 oQ_w9 acc_w9
    refine tk 0 31 rfl ?_
    simp only [pa]
    refine tk 1 32 rfl ?_
    simp only [pa]
    refine wpAnyH_ready (rs := [2]) (by kernel_rfl) (by simp) ?_
    refine AllReadyH.cons rfl (fun K hK => ?_) AllReadyH.nil
    go_simp
    have nxrp : w.heap.size + 1 + 1 + 1 ≠ w.heap.size + 1 + 1 := (by have := HOR2.out; have := sz_V1.out; omega)
    have nxot : w5.heap.size ≠ w.heap.size + 1 + 1 := (by have := HOR2.out; have := sz_V1.out; omega)
    have nxno : w5.heap.size + 1 ≠ w.heap.size + 1 + 1 := (by have := HOR2.out; have := sz_V1.out; omega)
    refine hK.out _ _ ?_ (fun hHeld => ?_)
    · try dsimp only
      exact ⟨(cellC (cellC ot0_V1 nxot) nxot), (cellC (cellC ot1_V1 nxot) nxot), (cellC (cellC no0_V1 nxno) nxno), (cellC (cellC no1_V1 nxno) nxno), (cellC (cellC no2_V1 nxno) nxno), (cellC (cellC no3_V1 nxno) nxno)⟩
    clear hK K
    have ryP : ∀ k, (Value.slice a5 np c5).ownBlock = some k → some (w.heap.size + 1 + 1) ≠ some k := (fun k hk e => by have h5 := lhP.out k hk; have h6 := Option.some.inj e; have := HOR2.out; have := sz_V1.out; omega)
    have ryQ : ∀ k, (Value.slice b5 nb d5).ownBlock = some k → some (w.heap.size + 1 + 1) ≠ some k := (fun k hk e => by have h5 := lhQ.out k hk; have h6 := Option.some.inj e; have := HOR2.out; have := sz_V1.out; omega)
    have lw : w.heap.size ≤ w.heap.size + 1 + 1 := (by have := HOR2.out; have := sz_V1.out; omega)
    generalize hWn : (V1.setCell ⟨w.heap.size + 1 + 1, 0, none⟩ (.slice a5 np c5)).setCell ⟨w.heap.size + 1 + 1, 1, none⟩ (.slice b5 nb d5) = V2 at *
    have rs0_V2 : V2.cell? ⟨w.heap.size + 1 + 1, 0, none⟩ = some (.slice a5 np c5) := by rw [← hWn]; simp [go_sem, rs0_V1]
    have rs1_V2 : V2.cell? ⟨w.heap.size + 1 + 1, 1, none⟩ = some (.slice b5 nb d5) := by rw [← hWn]; simp [go_sem, rs1_V1]
    have rsF_V2 : ∀ o, V2.frozen? ⟨w.heap.size + 1 + 1, o, none⟩ = false := fun o => by rw [← hWn]; exact (frzC (frzC (rsF_V1 o)))
    have rsL_V2 : w.heap.size + 1 + 1 < V2.heap.size := by rw [← hWn]; simpa using rsL_V1
    have rp0_V2 : V2.cell? ⟨w.heap.size + 1 + 1 + 1, 0, none⟩ = some (.bool false) := by rw [← hWn]; exact (cellC (cellC rp0_V1 nxrp) nxrp)
    have rp1_V2 : V2.cell? ⟨w.heap.size + 1 + 1 + 1, 1, none⟩ = some (.int .i64 0) := by rw [← hWn]; exact (cellC (cellC rp1_V1 nxrp) nxrp)
    have rp2_V2 : V2.cell? ⟨w.heap.size + 1 + 1 + 1, 2, none⟩ = some (.int .i64 0) := by rw [← hWn]; exact (cellC (cellC rp2_V1 nxrp) nxrp)
    have rp3_V2 : V2.cell? ⟨w.heap.size + 1 + 1 + 1, 3, none⟩ = some (.int .i64 0) := by rw [← hWn]; exact (cellC (cellC rp3_V1 nxrp) nxrp)
    have rpF_V2 : ∀ o, V2.frozen? ⟨w.heap.size + 1 + 1 + 1, o, none⟩ = false := fun o => by rw [← hWn]; exact (frzC (frzC (rpF_V1 o)))
    have rpL_V2 : w.heap.size + 1 + 1 + 1 < V2.heap.size := by rw [← hWn]; simpa using rpL_V1
    have ot0_V2 : V2.cell? ⟨w5.heap.size, 0, none⟩ = some (.slice a5 np c5) := by rw [← hWn]; exact (cellC (cellC ot0_V1 nxot) nxot)
    have ot1_V2 : V2.cell? ⟨w5.heap.size, 1, none⟩ = some (.slice b5 nb d5) := by rw [← hWn]; exact (cellC (cellC ot1_V1 nxot) nxot)
    have otF_V2 : ∀ o, V2.frozen? ⟨w5.heap.size, o, none⟩ = false := fun o => by rw [← hWn]; exact (frzC (frzC (otF_V1 o)))
    have otL_V2 : w5.heap.size < V2.heap.size := by rw [← hWn]; simpa using otL_V1
    have no0_V2 : V2.cell? ⟨w5.heap.size + 1, 0, none⟩ = some (.bool false) := by rw [← hWn]; exact (cellC (cellC no0_V1 nxno) nxno)
    have no1_V2 : V2.cell? ⟨w5.heap.size + 1, 1, none⟩ = some (.int .i64 0) := by rw [← hWn]; exact (cellC (cellC no1_V1 nxno) nxno)
    have no2_V2 : V2.cell? ⟨w5.heap.size + 1, 2, none⟩ = some (.int .i64 0) := by rw [← hWn]; exact (cellC (cellC no2_V1 nxno) nxno)
    have no3_V2 : V2.cell? ⟨w5.heap.size + 1, 3, none⟩ = some (.int .i64 0) := by rw [← hWn]; exact (cellC (cellC no3_V1 nxno) nxno)
    have noF_V2 : ∀ o, V2.frozen? ⟨w5.heap.size + 1, o, none⟩ = false := fun o => by rw [← hWn]; exact (frzC (frzC (noF_V1 o)))
    have noL_V2 : w5.heap.size + 1 < V2.heap.size := by rw [← hWn]; simpa using noL_V1
    have oP_V2 : Hid (OwnG KPl 46 V2 (W4.heap.size) (.slice a5 np c5) (ps)) := hidP (by rw [← hWn]; exact (OwnG.grown (OwnG.grown oP_V1.out (grown_cellG _ _ _ _) ryP) (grown_cellG _ _ _ _) ryP))
    have oQ_V2 : Hid (OwnG KBk 38 V2 (W4.heap.size) (.slice b5 nb d5) (bs)) := hidP (by rw [← hWn]; exact (OwnG.grown (OwnG.grown oQ_V1.out (grown_cellG _ _ _ _) ryQ) (grown_cellG _ _ _ _) ryQ))
    have acc_V2 : Hid (Below w.heap.size w V2) := hidP (by rw [← hWn]; exact (Below.setCell (Below.setCell acc_V1.out lw _) lw _))
    have sz_V2 : Hid (V2.heap.size = V1.heap.size) := hidP (by rw [← hWn]; simp)
    clear hWn nxrp nxot nxno ryP ryQ lw rs0_V1 rs1_V1 rsF_V1 rsL_V1 rp0_V1 rp1_V1 rp2_V1 rp3_V1 rpF_V1 rpL_V1 ot0_V1 ot1_V1 otF_V1 otL_V1 no0_V1 no1_V1 no2_V1 no3_V1 noF_V1 noL_V1 oP_V1 oQ_V1 acc_V1
    refine wpAnyH_ready (rs := [3]) (by kernel_rfl) (by simp) ?_
    refine AllReadyH.cons rfl (fun K hK => ?_) AllReadyH.nil
    go_simp
    have nxrs : w.heap.size + 1 + 1 ≠ w.heap.size + 1 + 1 + 1 := (by have := HOR2.out; have := sz_V1.out; have := sz_V2.out; omega)
    have nxot : w5.heap.size ≠ w.heap.size + 1 + 1 + 1 := (by have := HOR2.out; have := sz_V1.out; have := sz_V2.out; omega)
    have nxno : w5.heap.size + 1 ≠ w.heap.size + 1 + 1 + 1 := (by have := HOR2.out; have := sz_V1.out; have := sz_V2.out; omega)
    refine hK.out _ _ ?_ (fun hHeld => ?_)
    · try dsimp only
      exact ⟨(cellC (cellC (cellC (cellC ot0_V2 nxot) nxot) nxot) nxot), (cellC (cellC (cellC (cellC ot1_V2 nxot) nxot) nxot) nxot), (cellC (cellC (cellC (cellC no0_V2 nxno) nxno) nxno) nxno), (cellC (cellC (cellC (cellC no1_V2 nxno) nxno) nxno) nxno), (cellC (cellC (cellC (cellC no2_V2 nxno) nxno) nxno) nxno), (cellC (cellC (cellC (cellC no3_V2 nxno) nxno) nxno) nxno)⟩
    clear hK K
    clear nxot nxno
    clear ot0_V2 ot1_V2 otF_V2 otL_V2
    clear no0_V2 no1_V2 no2_V2 no3_V2 noF_V2 noL_V2
    have ryP : ∀ k, (Value.slice a5 np c5).ownBlock = some k → some (w.heap.size + 1 + 1 + 1) ≠ some k := (fun k hk e => by have h5 := lhP.out k hk; have h6 := Option.some.inj e; have := HOR2.out; have := sz_V1.out; have := sz_V2.out; omega)
    have ryQ : ∀ k, (Value.slice b5 nb d5).ownBlock = some k → some (w.heap.size + 1 + 1 + 1) ≠ some k := (fun k hk e => by have h5 := lhQ.out k hk; have h6 := Option.some.inj e; have := HOR2.out; have := sz_V1.out; have := sz_V2.out; omega)
    have lw : w.heap.size ≤ w.heap.size + 1 + 1 + 1 := (by have := HOR2.out; have := sz_V1.out; have := sz_V2.out; omega)
    generalize hWn : (((V2.setCell ⟨w.heap.size + 1 + 1 + 1, 0, none⟩ (.bool false)).setCell ⟨w.heap.size + 1 + 1 + 1, 1, none⟩ (.int .i64 0)).setCell ⟨w.heap.size + 1 + 1 + 1, 2, none⟩ (.int .i64 0)).setCell ⟨w.heap.size + 1 + 1 + 1, 3, none⟩ (.int .i64 0) = V3 at *
    have rp0_V3 : V3.cell? ⟨w.heap.size + 1 + 1 + 1, 0, none⟩ = some (.bool false) := by rw [← hWn]; simp [go_sem, rp0_V2]
    have rp1_V3 : V3.cell? ⟨w.heap.size + 1 + 1 + 1, 1, none⟩ = some (.int .i64 0) := by rw [← hWn]; simp [go_sem, rp1_V2]
    have rp2_V3 : V3.cell? ⟨w.heap.size + 1 + 1 + 1, 2, none⟩ = some (.int .i64 0) := by rw [← hWn]; simp [go_sem, rp2_V2]
    have rp3_V3 : V3.cell? ⟨w.heap.size + 1 + 1 + 1, 3, none⟩ = some (.int .i64 0) := by rw [← hWn]; simp [go_sem, rp3_V2]
    have rs0_V3 : V3.cell? ⟨w.heap.size + 1 + 1, 0, none⟩ = some (.slice a5 np c5) := by rw [← hWn]; exact (cellC (cellC (cellC (cellC rs0_V2 nxrs) nxrs) nxrs) nxrs)
    have rs1_V3 : V3.cell? ⟨w.heap.size + 1 + 1, 1, none⟩ = some (.slice b5 nb d5) := by rw [← hWn]; exact (cellC (cellC (cellC (cellC rs1_V2 nxrs) nxrs) nxrs) nxrs)
    have rsF_V3 : ∀ o, V3.frozen? ⟨w.heap.size + 1 + 1, o, none⟩ = false := fun o => by rw [← hWn]; exact (frzC (frzC (frzC (frzC (rsF_V2 o)))))
    have rsL_V3 : w.heap.size + 1 + 1 < V3.heap.size := by rw [← hWn]; simpa using rsL_V2
    have rpF_V3 : ∀ o, V3.frozen? ⟨w.heap.size + 1 + 1 + 1, o, none⟩ = false := fun o => by rw [← hWn]; exact (frzC (frzC (frzC (frzC (rpF_V2 o)))))
    have rpL_V3 : w.heap.size + 1 + 1 + 1 < V3.heap.size := by rw [← hWn]; simpa using rpL_V2
    have oP_V3 : Hid (OwnG KPl 46 V3 (W4.heap.size) (.slice a5 np c5) (ps)) := hidP (by rw [← hWn]; exact (OwnG.grown (OwnG.grown (OwnG.grown (OwnG.grown oP_V2.out (grown_cellG _ _ _ _) ryP) (grown_cellG _ _ _ _) ryP) (grown_cellG _ _ _ _) ryP) (grown_cellG _ _ _ _) ryP))
    have oQ_V3 : Hid (OwnG KBk 38 V3 (W4.heap.size) (.slice b5 nb d5) (bs)) := hidP (by rw [← hWn]; exact (OwnG.grown (OwnG.grown (OwnG.grown (OwnG.grown oQ_V2.out (grown_cellG _ _ _ _) ryQ) (grown_cellG _ _ _ _) ryQ) (grown_cellG _ _ _ _) ryQ) (grown_cellG _ _ _ _) ryQ))
    have acc_V3 : Hid (Below w.heap.size w V3) := hidP (by rw [← hWn]; exact (Below.setCell (Below.setCell (Below.setCell (Below.setCell acc_V2.out lw _) lw _) lw _) lw _))
    have sz_V3 : Hid (V3.heap.size = V2.heap.size) := hidP (by rw [← hWn]; simp)
    clear hWn nxrs ryP ryQ lw rp0_V2 rp1_V2 rp2_V2 rp3_V2 rs0_V2 rs1_V2 rsF_V2 rsL_V2 rpF_V2 rpL_V2 oP_V2 oQ_V2 acc_V2
    refine tk 4 8 rfl ?_
    simp only [pa]
    refine wpAnyH_done (by kernel_rfl) ?_ _
    clear hHeld
    go_wp2_with fail
    have eO := HO.out.trans (cv3 H1.out H2.out H3.out)
    subst eO
    refine bodyPost_ret (v := .tuple #[.agg #[.slice a5 np c5, .slice b5 nb d5], .agg #[.bool false, .int .i64 0, .int .i64 0, .int .i64 0], .int .i64 1]) (by simp [results, Tryz.results9, go_sem, rs0_V3, rs1_V3, rp0_V3, rp1_V3, rp2_V3, rp3_V3]) rfl ⟨_, _, _, _, _, rfl, ?_, ?_, ?_, ?_, ?_⟩
    · exact HN.out.2
    · have hB : w.heap.size + 1 + 1 + 1 < W4.heap.size ∧ w.heap.size ≤ W4.heap.size := (by have := HOR2.out; have := sz_V1.out; have := sz_V2.out; have := sz_V3.out; omega)
      refine OwnG.mono (B := W4.heap.size) ?_ hB.2
      repeat (first | (with_reducible refine OwnG.drewC ?_) | (with_reducible refine OwnG.grown ?_ (grown_cellG _ _ _ _) ?_; rotate_left; (focus (exact OwnG.ne_ofC oP_V3.out (by omega)))))
      with_reducible exact oP_V3.out
    · have hB : w.heap.size + 1 + 1 + 1 < W4.heap.size ∧ w.heap.size ≤ W4.heap.size := (by have := HOR2.out; have := sz_V1.out; have := sz_V2.out; have := sz_V3.out; omega)
      refine OwnG.mono (B := W4.heap.size) ?_ hB.2
      repeat (first | (with_reducible refine OwnG.drewC ?_) | (with_reducible refine OwnG.grown ?_ (grown_cellG _ _ _ _) ?_; rotate_left; (focus (exact OwnG.ne_ofC oQ_V3.out (by omega)))))
      with_reducible exact oQ_V3.out
    · exact ne5.out
    · repeat (first | (with_reducible refine Below.drew ?_) | (with_reducible refine Below.setCell ?_ ?_ _; rotate_left; (focus (first | (simp; done) | (simp; omega) | (dsimp only; have := HOR2.out; have := sz_V1.out; have := sz_V2.out; have := sz_V3.out; omega)))))
      exact acc_V3.out
  obtain ⟨⟨h20, h60⟩, hA, hSt⟩ := plan_bs H1.out
  have h60' : nb ≤ 60 := by have := HN.out.2; omega
  have HEx : Hid (∀ W, Below w.heap.size w W → Calls Tryz.prog 44 #[.agg #[.slice ap np cp, .slice ab nb cb], .agg #[.bool pt.s, .int .i64 pt.H.toInt, .int .i64 pt.L.toInt, .int .i64 pt.b]] W fun e w' => e = .returned (.int .i64 (plc pt ps)) ∧ Below W.heap.size W w') := hidP (fun W h => l5Exact_any pt H2.out ap np cp ab nb cb ps (plan_dsj H1.out) W HN.out.1 (HRP.out.later h) (by omega))
  by_cases h4 : plc pt ps < 0
  · have H4x := hidP h4
    obtain ⟨pl, hpl⟩ : ∃ pl, plc pt ps = pl := ⟨_, rfl⟩
    rw [hpl] at HEx h4
    have d4 : decide (pl < 0) = true := decide_eq_true h4
    clear hpl hA hSt h20 h60
    go_wp2_with fail
    refine (HEx.out _ acc_w9.out).mono ?_
    rintro e w10 ⟨rfl, hb10⟩
    have rsP_w10 := hidP (rsP_w9.out.later hb10)
    have rpP_w10 := hidP (rpP_w9.out.later hb10)
    have noP_w10 := hidP (noP_w9.out.later hb10)
    have otP_w10 := hidP (otP_w9.out.later hb10)
    clear rsP_w9 rpP_w9 noP_w9 otP_w9
    have pb0_w10 := (hb10.cell pbL_w9).trans pb0_w9
    have pb1_w10 := (hb10.cell pbL_w9).trans pb1_w9
    have pbF_w10 : ∀ o, w10.frozen? ⟨w.heap.size, o, none⟩ = false := fun o => (hb10.frozen pbL_w9).trans (pbF_w9 o)
    have pbL_w10 : w.heap.size < w10.heap.size := Nat.lt_of_lt_of_le pbL_w9 hb10.size
    have at0_w10 := (hb10.cell atL_w9).trans at0_w9
    have at1_w10 := (hb10.cell atL_w9).trans at1_w9
    have at2_w10 := (hb10.cell atL_w9).trans at2_w9
    have at3_w10 := (hb10.cell atL_w9).trans at3_w9
    have atF_w10 : ∀ o, w10.frozen? ⟨w.heap.size + 1, o, none⟩ = false := fun o => (hb10.frozen atL_w9).trans (atF_w9 o)
    have atL_w10 : w.heap.size + 1 < w10.heap.size := Nat.lt_of_lt_of_le atL_w9 hb10.size
    have oP_w10 := hidP (OwnG.later oP_w9.out hb10)
    have oQ_w10 := hidP (OwnG.later oQ_w9.out hb10)
    have acc_w10 := hidP (acc_w9.out.trans (hb10.mono acc_w9.out.size))
    have sz_w10 : Hid (w9.heap.size ≤ w10.heap.size) := hidP hb10.size
    clear hb10 pb0_w9 pb1_w9 pbF_w9 pbL_w9 at0_w9 at1_w9 at2_w9 at3_w9 atF_w9 atL_w9 oP_w9 oQ_w9 acc_w9
    go_wp2_with fail
    clear pb0_w10 pb1_w10 pbF_w10 pbL_w10
    clear at0_w10 at1_w10 at2_w10 at3_w10 atF_w10 atL_w10
    have rs0_w10 := rsP_w10.out.1 0 _ rfl
    have rs1_w10 := rsP_w10.out.1 1 _ rfl
    have rsF_w10 := rsP_w10.out.2.1
    have rsL_w10 := rsP_w10.out.2.2
    clear rsP_w10
    have rp0_w10 := rpP_w10.out.1 0 _ rfl
    have rp1_w10 := rpP_w10.out.1 1 _ rfl
    have rp2_w10 := rpP_w10.out.1 2 _ rfl
    have rp3_w10 := rpP_w10.out.1 3 _ rfl
    have rpF_w10 := rpP_w10.out.2.1
    have rpL_w10 := rpP_w10.out.2.2
    clear rpP_w10
    have ot0_w10 := otP_w10.out.1 0 _ rfl
    have ot1_w10 := otP_w10.out.1 1 _ rfl
    have otF_w10 := otP_w10.out.2.1
    have otL_w10 := otP_w10.out.2.2
    clear otP_w10
    have no0_w10 := noP_w10.out.1 0 _ rfl
    have no1_w10 := noP_w10.out.1 1 _ rfl
    have no2_w10 := noP_w10.out.1 2 _ rfl
    have no3_w10 := noP_w10.out.1 3 _ rfl
    have noF_w10 := noP_w10.out.2.1
    have noL_w10 := noP_w10.out.2.2
    clear noP_w10
    have hbd := (Below.refl w10.heap.size w10).drew
    refine wp_region_held_drew (S := (fun x => x.cell? ⟨w5.heap.size, 0, none⟩ = some (.slice a5 np c5) ∧ x.cell? ⟨w5.heap.size, 1, none⟩ = some (.slice b5 nb d5) ∧ x.cell? ⟨w5.heap.size + 1, 0, none⟩ = some (.bool false) ∧ x.cell? ⟨w5.heap.size + 1, 1, none⟩ = some (.int .i64 0) ∧ x.cell? ⟨w5.heap.size + 1, 2, none⟩ = some (.int .i64 0) ∧ x.cell? ⟨w5.heap.size + 1, 3, none⟩ = some (.int .i64 0))) (by kernel_rfl) ?_ (fun hHeld => ?_)
    · try dsimp only
      exact ⟨(hbd.cell otL_w10).trans ot0_w10, (hbd.cell otL_w10).trans ot1_w10, (hbd.cell noL_w10).trans no0_w10, (hbd.cell noL_w10).trans no1_w10, (hbd.cell noL_w10).trans no2_w10, (hbd.cell noL_w10).trans no3_w10⟩
    generalize w10.drew = V1 at *
    have rs0_V1 := (hbd.cell rsL_w10).trans rs0_w10
    have rs1_V1 := (hbd.cell rsL_w10).trans rs1_w10
    have rsF_V1 : ∀ o, V1.frozen? ⟨w.heap.size + 1 + 1, o, none⟩ = false := fun o => (hbd.frozen rsL_w10).trans (rsF_w10 o)
    have rsL_V1 : w.heap.size + 1 + 1 < V1.heap.size := Nat.lt_of_lt_of_le rsL_w10 hbd.size
    have rp0_V1 := (hbd.cell rpL_w10).trans rp0_w10
    have rp1_V1 := (hbd.cell rpL_w10).trans rp1_w10
    have rp2_V1 := (hbd.cell rpL_w10).trans rp2_w10
    have rp3_V1 := (hbd.cell rpL_w10).trans rp3_w10
    have rpF_V1 : ∀ o, V1.frozen? ⟨w.heap.size + 1 + 1 + 1, o, none⟩ = false := fun o => (hbd.frozen rpL_w10).trans (rpF_w10 o)
    have rpL_V1 : w.heap.size + 1 + 1 + 1 < V1.heap.size := Nat.lt_of_lt_of_le rpL_w10 hbd.size
    have ot0_V1 := (hbd.cell otL_w10).trans ot0_w10
    have ot1_V1 := (hbd.cell otL_w10).trans ot1_w10
    have otF_V1 : ∀ o, V1.frozen? ⟨w5.heap.size, o, none⟩ = false := fun o => (hbd.frozen otL_w10).trans (otF_w10 o)
    have otL_V1 : w5.heap.size < V1.heap.size := Nat.lt_of_lt_of_le otL_w10 hbd.size
    have no0_V1 := (hbd.cell noL_w10).trans no0_w10
    have no1_V1 := (hbd.cell noL_w10).trans no1_w10
    have no2_V1 := (hbd.cell noL_w10).trans no2_w10
    have no3_V1 := (hbd.cell noL_w10).trans no3_w10
    have noF_V1 : ∀ o, V1.frozen? ⟨w5.heap.size + 1, o, none⟩ = false := fun o => (hbd.frozen noL_w10).trans (noF_w10 o)
    have noL_V1 : w5.heap.size + 1 < V1.heap.size := Nat.lt_of_lt_of_le noL_w10 hbd.size
    have oP_V1 := hidP (OwnG.later oP_w10.out hbd)
    have oQ_V1 := hidP (OwnG.later oQ_w10.out hbd)
    have acc_V1 := hidP (acc_w10.out.trans (hbd.mono acc_w10.out.size))
    have sz_V1 : Hid (w10.heap.size ≤ V1.heap.size) := hidP hbd.size
    clear hbd rs0_w10 rs1_w10 rsF_w10 rsL_w10 rp0_w10 rp1_w10 rp2_w10 rp3_w10 rpF_w10 rpL_w10 ot0_w10 ot1_w10 otF_w10 otL_w10 no0_w10 no1_w10 no2_w10 no3_w10 noF_w10 noL_w10 oP_w10 oQ_w10 acc_w10
    refine tk 0 38 rfl ?_
    simp only [pa]
    refine tk 1 39 rfl ?_
    simp only [pa]
    refine wpAnyH_ready (rs := [2]) (by kernel_rfl) (by simp) ?_
    refine AllReadyH.cons rfl (fun K hK => ?_) AllReadyH.nil
    go_simp
    have nxrp : w.heap.size + 1 + 1 + 1 ≠ w.heap.size + 1 + 1 := (by have := HOR2.out; have := sz_w10.out; have := sz_V1.out; omega)
    have nxot : w5.heap.size ≠ w.heap.size + 1 + 1 := (by have := HOR2.out; have := sz_w10.out; have := sz_V1.out; omega)
    have nxno : w5.heap.size + 1 ≠ w.heap.size + 1 + 1 := (by have := HOR2.out; have := sz_w10.out; have := sz_V1.out; omega)
    refine hK.out _ _ ?_ (fun hHeld => ?_)
    · try dsimp only
      exact ⟨(cellC (cellC ot0_V1 nxot) nxot), (cellC (cellC ot1_V1 nxot) nxot), (cellC (cellC no0_V1 nxno) nxno), (cellC (cellC no1_V1 nxno) nxno), (cellC (cellC no2_V1 nxno) nxno), (cellC (cellC no3_V1 nxno) nxno)⟩
    clear hK K
    have ryP : ∀ k, (Value.slice a5 np c5).ownBlock = some k → some (w.heap.size + 1 + 1) ≠ some k := (fun k hk e => by have h5 := lhP.out k hk; have h6 := Option.some.inj e; have := HOR2.out; have := sz_w10.out; have := sz_V1.out; omega)
    have ryQ : ∀ k, (Value.slice b5 nb d5).ownBlock = some k → some (w.heap.size + 1 + 1) ≠ some k := (fun k hk e => by have h5 := lhQ.out k hk; have h6 := Option.some.inj e; have := HOR2.out; have := sz_w10.out; have := sz_V1.out; omega)
    have lw : w.heap.size ≤ w.heap.size + 1 + 1 := (by have := HOR2.out; have := sz_w10.out; have := sz_V1.out; omega)
    generalize hWn : (V1.setCell ⟨w.heap.size + 1 + 1, 0, none⟩ (.slice a5 np c5)).setCell ⟨w.heap.size + 1 + 1, 1, none⟩ (.slice b5 nb d5) = V2 at *
    have rs0_V2 : V2.cell? ⟨w.heap.size + 1 + 1, 0, none⟩ = some (.slice a5 np c5) := by rw [← hWn]; simp [go_sem, rs0_V1]
    have rs1_V2 : V2.cell? ⟨w.heap.size + 1 + 1, 1, none⟩ = some (.slice b5 nb d5) := by rw [← hWn]; simp [go_sem, rs1_V1]
    have rsF_V2 : ∀ o, V2.frozen? ⟨w.heap.size + 1 + 1, o, none⟩ = false := fun o => by rw [← hWn]; exact (frzC (frzC (rsF_V1 o)))
    have rsL_V2 : w.heap.size + 1 + 1 < V2.heap.size := by rw [← hWn]; simpa using rsL_V1
    have rp0_V2 : V2.cell? ⟨w.heap.size + 1 + 1 + 1, 0, none⟩ = some (.bool false) := by rw [← hWn]; exact (cellC (cellC rp0_V1 nxrp) nxrp)
    have rp1_V2 : V2.cell? ⟨w.heap.size + 1 + 1 + 1, 1, none⟩ = some (.int .i64 0) := by rw [← hWn]; exact (cellC (cellC rp1_V1 nxrp) nxrp)
    have rp2_V2 : V2.cell? ⟨w.heap.size + 1 + 1 + 1, 2, none⟩ = some (.int .i64 0) := by rw [← hWn]; exact (cellC (cellC rp2_V1 nxrp) nxrp)
    have rp3_V2 : V2.cell? ⟨w.heap.size + 1 + 1 + 1, 3, none⟩ = some (.int .i64 0) := by rw [← hWn]; exact (cellC (cellC rp3_V1 nxrp) nxrp)
    have rpF_V2 : ∀ o, V2.frozen? ⟨w.heap.size + 1 + 1 + 1, o, none⟩ = false := fun o => by rw [← hWn]; exact (frzC (frzC (rpF_V1 o)))
    have rpL_V2 : w.heap.size + 1 + 1 + 1 < V2.heap.size := by rw [← hWn]; simpa using rpL_V1
    have ot0_V2 : V2.cell? ⟨w5.heap.size, 0, none⟩ = some (.slice a5 np c5) := by rw [← hWn]; exact (cellC (cellC ot0_V1 nxot) nxot)
    have ot1_V2 : V2.cell? ⟨w5.heap.size, 1, none⟩ = some (.slice b5 nb d5) := by rw [← hWn]; exact (cellC (cellC ot1_V1 nxot) nxot)
    have otF_V2 : ∀ o, V2.frozen? ⟨w5.heap.size, o, none⟩ = false := fun o => by rw [← hWn]; exact (frzC (frzC (otF_V1 o)))
    have otL_V2 : w5.heap.size < V2.heap.size := by rw [← hWn]; simpa using otL_V1
    have no0_V2 : V2.cell? ⟨w5.heap.size + 1, 0, none⟩ = some (.bool false) := by rw [← hWn]; exact (cellC (cellC no0_V1 nxno) nxno)
    have no1_V2 : V2.cell? ⟨w5.heap.size + 1, 1, none⟩ = some (.int .i64 0) := by rw [← hWn]; exact (cellC (cellC no1_V1 nxno) nxno)
    have no2_V2 : V2.cell? ⟨w5.heap.size + 1, 2, none⟩ = some (.int .i64 0) := by rw [← hWn]; exact (cellC (cellC no2_V1 nxno) nxno)
    have no3_V2 : V2.cell? ⟨w5.heap.size + 1, 3, none⟩ = some (.int .i64 0) := by rw [← hWn]; exact (cellC (cellC no3_V1 nxno) nxno)
    have noF_V2 : ∀ o, V2.frozen? ⟨w5.heap.size + 1, o, none⟩ = false := fun o => by rw [← hWn]; exact (frzC (frzC (noF_V1 o)))
    have noL_V2 : w5.heap.size + 1 < V2.heap.size := by rw [← hWn]; simpa using noL_V1
    have oP_V2 : Hid (OwnG KPl 46 V2 (W4.heap.size) (.slice a5 np c5) (ps)) := hidP (by rw [← hWn]; exact (OwnG.grown (OwnG.grown oP_V1.out (grown_cellG _ _ _ _) ryP) (grown_cellG _ _ _ _) ryP))
    have oQ_V2 : Hid (OwnG KBk 38 V2 (W4.heap.size) (.slice b5 nb d5) (bs)) := hidP (by rw [← hWn]; exact (OwnG.grown (OwnG.grown oQ_V1.out (grown_cellG _ _ _ _) ryQ) (grown_cellG _ _ _ _) ryQ))
    have acc_V2 : Hid (Below w.heap.size w V2) := hidP (by rw [← hWn]; exact (Below.setCell (Below.setCell acc_V1.out lw _) lw _))
    have sz_V2 : Hid (V2.heap.size = V1.heap.size) := hidP (by rw [← hWn]; simp)
    clear hWn nxrp nxot nxno ryP ryQ lw rs0_V1 rs1_V1 rsF_V1 rsL_V1 rp0_V1 rp1_V1 rp2_V1 rp3_V1 rpF_V1 rpL_V1 ot0_V1 ot1_V1 otF_V1 otL_V1 no0_V1 no1_V1 no2_V1 no3_V1 noF_V1 noL_V1 oP_V1 oQ_V1 acc_V1
    refine wpAnyH_ready (rs := [3]) (by kernel_rfl) (by simp) ?_
    refine AllReadyH.cons rfl (fun K hK => ?_) AllReadyH.nil
    go_simp
    have nxrs : w.heap.size + 1 + 1 ≠ w.heap.size + 1 + 1 + 1 := (by have := HOR2.out; have := sz_w10.out; have := sz_V1.out; have := sz_V2.out; omega)
    have nxot : w5.heap.size ≠ w.heap.size + 1 + 1 + 1 := (by have := HOR2.out; have := sz_w10.out; have := sz_V1.out; have := sz_V2.out; omega)
    have nxno : w5.heap.size + 1 ≠ w.heap.size + 1 + 1 + 1 := (by have := HOR2.out; have := sz_w10.out; have := sz_V1.out; have := sz_V2.out; omega)
    refine hK.out _ _ ?_ (fun hHeld => ?_)
    · try dsimp only
      exact ⟨(cellC (cellC (cellC (cellC ot0_V2 nxot) nxot) nxot) nxot), (cellC (cellC (cellC (cellC ot1_V2 nxot) nxot) nxot) nxot), (cellC (cellC (cellC (cellC no0_V2 nxno) nxno) nxno) nxno), (cellC (cellC (cellC (cellC no1_V2 nxno) nxno) nxno) nxno), (cellC (cellC (cellC (cellC no2_V2 nxno) nxno) nxno) nxno), (cellC (cellC (cellC (cellC no3_V2 nxno) nxno) nxno) nxno)⟩
    clear hK K
    clear nxot nxno
    clear ot0_V2 ot1_V2 otF_V2 otL_V2
    clear no0_V2 no1_V2 no2_V2 no3_V2 noF_V2 noL_V2
    have ryP : ∀ k, (Value.slice a5 np c5).ownBlock = some k → some (w.heap.size + 1 + 1 + 1) ≠ some k := (fun k hk e => by have h5 := lhP.out k hk; have h6 := Option.some.inj e; have := HOR2.out; have := sz_w10.out; have := sz_V1.out; have := sz_V2.out; omega)
    have ryQ : ∀ k, (Value.slice b5 nb d5).ownBlock = some k → some (w.heap.size + 1 + 1 + 1) ≠ some k := (fun k hk e => by have h5 := lhQ.out k hk; have h6 := Option.some.inj e; have := HOR2.out; have := sz_w10.out; have := sz_V1.out; have := sz_V2.out; omega)
    have lw : w.heap.size ≤ w.heap.size + 1 + 1 + 1 := (by have := HOR2.out; have := sz_w10.out; have := sz_V1.out; have := sz_V2.out; omega)
    generalize hWn : (((V2.setCell ⟨w.heap.size + 1 + 1 + 1, 0, none⟩ (.bool false)).setCell ⟨w.heap.size + 1 + 1 + 1, 1, none⟩ (.int .i64 0)).setCell ⟨w.heap.size + 1 + 1 + 1, 2, none⟩ (.int .i64 0)).setCell ⟨w.heap.size + 1 + 1 + 1, 3, none⟩ (.int .i64 0) = V3 at *
    have rp0_V3 : V3.cell? ⟨w.heap.size + 1 + 1 + 1, 0, none⟩ = some (.bool false) := by rw [← hWn]; simp [go_sem, rp0_V2]
    have rp1_V3 : V3.cell? ⟨w.heap.size + 1 + 1 + 1, 1, none⟩ = some (.int .i64 0) := by rw [← hWn]; simp [go_sem, rp1_V2]
    have rp2_V3 : V3.cell? ⟨w.heap.size + 1 + 1 + 1, 2, none⟩ = some (.int .i64 0) := by rw [← hWn]; simp [go_sem, rp2_V2]
    have rp3_V3 : V3.cell? ⟨w.heap.size + 1 + 1 + 1, 3, none⟩ = some (.int .i64 0) := by rw [← hWn]; simp [go_sem, rp3_V2]
    have rs0_V3 : V3.cell? ⟨w.heap.size + 1 + 1, 0, none⟩ = some (.slice a5 np c5) := by rw [← hWn]; exact (cellC (cellC (cellC (cellC rs0_V2 nxrs) nxrs) nxrs) nxrs)
    have rs1_V3 : V3.cell? ⟨w.heap.size + 1 + 1, 1, none⟩ = some (.slice b5 nb d5) := by rw [← hWn]; exact (cellC (cellC (cellC (cellC rs1_V2 nxrs) nxrs) nxrs) nxrs)
    have rsF_V3 : ∀ o, V3.frozen? ⟨w.heap.size + 1 + 1, o, none⟩ = false := fun o => by rw [← hWn]; exact (frzC (frzC (frzC (frzC (rsF_V2 o)))))
    have rsL_V3 : w.heap.size + 1 + 1 < V3.heap.size := by rw [← hWn]; simpa using rsL_V2
    have rpF_V3 : ∀ o, V3.frozen? ⟨w.heap.size + 1 + 1 + 1, o, none⟩ = false := fun o => by rw [← hWn]; exact (frzC (frzC (frzC (frzC (rpF_V2 o)))))
    have rpL_V3 : w.heap.size + 1 + 1 + 1 < V3.heap.size := by rw [← hWn]; simpa using rpL_V2
    have oP_V3 : Hid (OwnG KPl 46 V3 (W4.heap.size) (.slice a5 np c5) (ps)) := hidP (by rw [← hWn]; exact (OwnG.grown (OwnG.grown (OwnG.grown (OwnG.grown oP_V2.out (grown_cellG _ _ _ _) ryP) (grown_cellG _ _ _ _) ryP) (grown_cellG _ _ _ _) ryP) (grown_cellG _ _ _ _) ryP))
    have oQ_V3 : Hid (OwnG KBk 38 V3 (W4.heap.size) (.slice b5 nb d5) (bs)) := hidP (by rw [← hWn]; exact (OwnG.grown (OwnG.grown (OwnG.grown (OwnG.grown oQ_V2.out (grown_cellG _ _ _ _) ryQ) (grown_cellG _ _ _ _) ryQ) (grown_cellG _ _ _ _) ryQ) (grown_cellG _ _ _ _) ryQ))
    have acc_V3 : Hid (Below w.heap.size w V3) := hidP (by rw [← hWn]; exact (Below.setCell (Below.setCell (Below.setCell (Below.setCell acc_V2.out lw _) lw _) lw _) lw _))
    have sz_V3 : Hid (V3.heap.size = V2.heap.size) := hidP (by rw [← hWn]; simp)
    clear hWn nxrs ryP ryQ lw rp0_V2 rp1_V2 rp2_V2 rp3_V2 rs0_V2 rs1_V2 rsF_V2 rsL_V2 rpF_V2 rpL_V2 oP_V2 oQ_V2 acc_V2
    refine tk 4 8 rfl ?_
    simp only [pa]
    refine wpAnyH_done (by kernel_rfl) ?_ _
    clear hHeld
    go_wp2_with fail
    have eO := HO.out.trans (cv4 H1.out H2.out H3.out H4x.out)
    subst eO
    refine bodyPost_ret (v := .tuple #[.agg #[.slice a5 np c5, .slice b5 nb d5], .agg #[.bool false, .int .i64 0, .int .i64 0, .int .i64 0], .int .i64 4]) (by simp [results, Tryz.results9, go_sem, rs0_V3, rs1_V3, rp0_V3, rp1_V3, rp2_V3, rp3_V3]) rfl ⟨_, _, _, _, _, rfl, ?_, ?_, ?_, ?_, ?_⟩
    · exact HN.out.2
    · have hB : w.heap.size + 1 + 1 + 1 < W4.heap.size ∧ w.heap.size ≤ W4.heap.size := (by have := HOR2.out; have := sz_w10.out; have := sz_V1.out; have := sz_V2.out; have := sz_V3.out; omega)
      refine OwnG.mono (B := W4.heap.size) ?_ hB.2
      repeat (first | (with_reducible refine OwnG.drewC ?_) | (with_reducible refine OwnG.grown ?_ (grown_cellG _ _ _ _) ?_; rotate_left; (focus (exact OwnG.ne_ofC oP_V3.out (by omega)))))
      with_reducible exact oP_V3.out
    · have hB : w.heap.size + 1 + 1 + 1 < W4.heap.size ∧ w.heap.size ≤ W4.heap.size := (by have := HOR2.out; have := sz_w10.out; have := sz_V1.out; have := sz_V2.out; have := sz_V3.out; omega)
      refine OwnG.mono (B := W4.heap.size) ?_ hB.2
      repeat (first | (with_reducible refine OwnG.drewC ?_) | (with_reducible refine OwnG.grown ?_ (grown_cellG _ _ _ _) ?_; rotate_left; (focus (exact OwnG.ne_ofC oQ_V3.out (by omega)))))
      with_reducible exact oQ_V3.out
    · exact ne5.out
    · repeat (first | (with_reducible refine Below.drew ?_) | (with_reducible refine Below.setCell ?_ ?_ _; rotate_left; (focus (first | (simp; done) | (simp; omega) | (dsimp only; have := HOR2.out; have := sz_w10.out; have := sz_V1.out; have := sz_V2.out; have := sz_V3.out; omega)))))
      exact acc_V3.out
  obtain ⟨j, q, hj, hjq⟩ := plc_get h4
  have H4 := hidP h4
  rw [hj] at HEx
  have eb := HBt.out j q hj hjq
  have hjn : j < np := by have := (List.getElem?_eq_some_iff.1 hjq).1; have := HN.out.1; omega
  clear h4 hj
  have g1 : decide ((j : Int) < 0) = false := decide_eq_false (by omega)
  have g2 : ¬ ((j : Int) < 0) := by omega
  have g3 : (0 : Int) ≤ (j : Int) := by omega
  have g4 : (j : Int) < (np : Int) := by omega
  have HJ := hidP (And.intro hjq eb)
  have HAS := hidP (And.intro hA hSt)
  clear hjq eb hA hSt h20 h60
  go_wp2_with fail
  refine (HEx.out _ acc_w9.out).mono ?_
  rintro e w10 ⟨rfl, hb10⟩
  have rsP_w10 := hidP (rsP_w9.out.later hb10)
  have rpP_w10 := hidP (rpP_w9.out.later hb10)
  have noP_w10 := hidP (noP_w9.out.later hb10)
  have otP_w10 := hidP (otP_w9.out.later hb10)
  clear rsP_w9 rpP_w9 noP_w9 otP_w9
  have pb0_w10 := (hb10.cell pbL_w9).trans pb0_w9
  have pb1_w10 := (hb10.cell pbL_w9).trans pb1_w9
  have pbF_w10 : ∀ o, w10.frozen? ⟨w.heap.size, o, none⟩ = false := fun o => (hb10.frozen pbL_w9).trans (pbF_w9 o)
  have pbL_w10 : w.heap.size < w10.heap.size := Nat.lt_of_lt_of_le pbL_w9 hb10.size
  have at0_w10 := (hb10.cell atL_w9).trans at0_w9
  have at1_w10 := (hb10.cell atL_w9).trans at1_w9
  have at2_w10 := (hb10.cell atL_w9).trans at2_w9
  have at3_w10 := (hb10.cell atL_w9).trans at3_w9
  have atF_w10 : ∀ o, w10.frozen? ⟨w.heap.size + 1, o, none⟩ = false := fun o => (hb10.frozen atL_w9).trans (atF_w9 o)
  have atL_w10 : w.heap.size + 1 < w10.heap.size := Nat.lt_of_lt_of_le atL_w9 hb10.size
  have oP_w10 := hidP (OwnG.later oP_w9.out hb10)
  have oQ_w10 := hidP (OwnG.later oQ_w9.out hb10)
  have acc_w10 := hidP (acc_w9.out.trans (hb10.mono acc_w9.out.size))
  have sz_w10 : Hid (w9.heap.size ≤ w10.heap.size) := hidP hb10.size
  clear hb10 pb0_w9 pb1_w9 pbF_w9 pbL_w9 at0_w9 at1_w9 at2_w9 at3_w9 atF_w9 atL_w9 oP_w9 oQ_w9 acc_w9
  by_cases h5 : nb = 60
  · have e5 : ((nb : Int) == 60) = true := by simp [h5]
    have H5 := hidP h5
    clear h5
    go_wp2_with fail
    clear pb0_w10 pb1_w10 pbF_w10 pbL_w10
    clear at0_w10 at1_w10 at2_w10 at3_w10 atF_w10 atL_w10
    have rs0_w10 := rsP_w10.out.1 0 _ rfl
    have rs1_w10 := rsP_w10.out.1 1 _ rfl
    have rsF_w10 := rsP_w10.out.2.1
    have rsL_w10 := rsP_w10.out.2.2
    clear rsP_w10
    have rp0_w10 := rpP_w10.out.1 0 _ rfl
    have rp1_w10 := rpP_w10.out.1 1 _ rfl
    have rp2_w10 := rpP_w10.out.1 2 _ rfl
    have rp3_w10 := rpP_w10.out.1 3 _ rfl
    have rpF_w10 := rpP_w10.out.2.1
    have rpL_w10 := rpP_w10.out.2.2
    clear rpP_w10
    have ot0_w10 := otP_w10.out.1 0 _ rfl
    have ot1_w10 := otP_w10.out.1 1 _ rfl
    have otF_w10 := otP_w10.out.2.1
    have otL_w10 := otP_w10.out.2.2
    clear otP_w10
    have no0_w10 := noP_w10.out.1 0 _ rfl
    have no1_w10 := noP_w10.out.1 1 _ rfl
    have no2_w10 := noP_w10.out.1 2 _ rfl
    have no3_w10 := noP_w10.out.1 3 _ rfl
    have noF_w10 := noP_w10.out.2.1
    have noL_w10 := noP_w10.out.2.2
    clear noP_w10
    have hbd := (Below.refl w10.heap.size w10).drew
    refine wp_region_held_drew (S := (fun x => x.cell? ⟨w5.heap.size, 0, none⟩ = some (.slice a5 np c5) ∧ x.cell? ⟨w5.heap.size, 1, none⟩ = some (.slice b5 nb d5) ∧ x.cell? ⟨w5.heap.size + 1, 0, none⟩ = some (.bool false) ∧ x.cell? ⟨w5.heap.size + 1, 1, none⟩ = some (.int .i64 0) ∧ x.cell? ⟨w5.heap.size + 1, 2, none⟩ = some (.int .i64 0) ∧ x.cell? ⟨w5.heap.size + 1, 3, none⟩ = some (.int .i64 0))) (by kernel_rfl) ?_ (fun hHeld => ?_)
    · try dsimp only
      exact ⟨(hbd.cell otL_w10).trans ot0_w10, (hbd.cell otL_w10).trans ot1_w10, (hbd.cell noL_w10).trans no0_w10, (hbd.cell noL_w10).trans no1_w10, (hbd.cell noL_w10).trans no2_w10, (hbd.cell noL_w10).trans no3_w10⟩
    generalize w10.drew = V1 at *
    have rs0_V1 := (hbd.cell rsL_w10).trans rs0_w10
    have rs1_V1 := (hbd.cell rsL_w10).trans rs1_w10
    have rsF_V1 : ∀ o, V1.frozen? ⟨w.heap.size + 1 + 1, o, none⟩ = false := fun o => (hbd.frozen rsL_w10).trans (rsF_w10 o)
    have rsL_V1 : w.heap.size + 1 + 1 < V1.heap.size := Nat.lt_of_lt_of_le rsL_w10 hbd.size
    have rp0_V1 := (hbd.cell rpL_w10).trans rp0_w10
    have rp1_V1 := (hbd.cell rpL_w10).trans rp1_w10
    have rp2_V1 := (hbd.cell rpL_w10).trans rp2_w10
    have rp3_V1 := (hbd.cell rpL_w10).trans rp3_w10
    have rpF_V1 : ∀ o, V1.frozen? ⟨w.heap.size + 1 + 1 + 1, o, none⟩ = false := fun o => (hbd.frozen rpL_w10).trans (rpF_w10 o)
    have rpL_V1 : w.heap.size + 1 + 1 + 1 < V1.heap.size := Nat.lt_of_lt_of_le rpL_w10 hbd.size
    have ot0_V1 := (hbd.cell otL_w10).trans ot0_w10
    have ot1_V1 := (hbd.cell otL_w10).trans ot1_w10
    have otF_V1 : ∀ o, V1.frozen? ⟨w5.heap.size, o, none⟩ = false := fun o => (hbd.frozen otL_w10).trans (otF_w10 o)
    have otL_V1 : w5.heap.size < V1.heap.size := Nat.lt_of_lt_of_le otL_w10 hbd.size
    have no0_V1 := (hbd.cell noL_w10).trans no0_w10
    have no1_V1 := (hbd.cell noL_w10).trans no1_w10
    have no2_V1 := (hbd.cell noL_w10).trans no2_w10
    have no3_V1 := (hbd.cell noL_w10).trans no3_w10
    have noF_V1 : ∀ o, V1.frozen? ⟨w5.heap.size + 1, o, none⟩ = false := fun o => (hbd.frozen noL_w10).trans (noF_w10 o)
    have noL_V1 : w5.heap.size + 1 < V1.heap.size := Nat.lt_of_lt_of_le noL_w10 hbd.size
    have oP_V1 := hidP (OwnG.later oP_w10.out hbd)
    have oQ_V1 := hidP (OwnG.later oQ_w10.out hbd)
    have acc_V1 := hidP (acc_w10.out.trans (hbd.mono acc_w10.out.size))
    have sz_V1 : Hid (w10.heap.size ≤ V1.heap.size) := hidP hbd.size
    clear hbd rs0_w10 rs1_w10 rsF_w10 rsL_w10 rp0_w10 rp1_w10 rp2_w10 rp3_w10 rpF_w10 rpL_w10 ot0_w10 ot1_w10 otF_w10 otL_w10 no0_w10 no1_w10 no2_w10 no3_w10 noF_w10 noL_w10 oP_w10 oQ_w10 acc_w10
    refine tk 0 44 rfl ?_
    simp only [pa]
    refine tk 1 45 rfl ?_
    simp only [pa]
    refine wpAnyH_ready (rs := [2]) (by kernel_rfl) (by simp) ?_
    refine AllReadyH.cons rfl (fun K hK => ?_) AllReadyH.nil
    go_simp
    have nxrp : w.heap.size + 1 + 1 + 1 ≠ w.heap.size + 1 + 1 := (by have := HOR2.out; have := sz_w10.out; have := sz_V1.out; omega)
    have nxot : w5.heap.size ≠ w.heap.size + 1 + 1 := (by have := HOR2.out; have := sz_w10.out; have := sz_V1.out; omega)
    have nxno : w5.heap.size + 1 ≠ w.heap.size + 1 + 1 := (by have := HOR2.out; have := sz_w10.out; have := sz_V1.out; omega)
    refine hK.out _ _ ?_ (fun hHeld => ?_)
    · try dsimp only
      exact ⟨(cellC (cellC ot0_V1 nxot) nxot), (cellC (cellC ot1_V1 nxot) nxot), (cellC (cellC no0_V1 nxno) nxno), (cellC (cellC no1_V1 nxno) nxno), (cellC (cellC no2_V1 nxno) nxno), (cellC (cellC no3_V1 nxno) nxno)⟩
    clear hK K
    have ryP : ∀ k, (Value.slice a5 np c5).ownBlock = some k → some (w.heap.size + 1 + 1) ≠ some k := (fun k hk e => by have h5 := lhP.out k hk; have h6 := Option.some.inj e; have := HOR2.out; have := sz_w10.out; have := sz_V1.out; omega)
    have ryQ : ∀ k, (Value.slice b5 nb d5).ownBlock = some k → some (w.heap.size + 1 + 1) ≠ some k := (fun k hk e => by have h5 := lhQ.out k hk; have h6 := Option.some.inj e; have := HOR2.out; have := sz_w10.out; have := sz_V1.out; omega)
    have lw : w.heap.size ≤ w.heap.size + 1 + 1 := (by have := HOR2.out; have := sz_w10.out; have := sz_V1.out; omega)
    generalize hWn : (V1.setCell ⟨w.heap.size + 1 + 1, 0, none⟩ (.slice a5 np c5)).setCell ⟨w.heap.size + 1 + 1, 1, none⟩ (.slice b5 nb d5) = V2 at *
    have rs0_V2 : V2.cell? ⟨w.heap.size + 1 + 1, 0, none⟩ = some (.slice a5 np c5) := by rw [← hWn]; simp [go_sem, rs0_V1]
    have rs1_V2 : V2.cell? ⟨w.heap.size + 1 + 1, 1, none⟩ = some (.slice b5 nb d5) := by rw [← hWn]; simp [go_sem, rs1_V1]
    have rsF_V2 : ∀ o, V2.frozen? ⟨w.heap.size + 1 + 1, o, none⟩ = false := fun o => by rw [← hWn]; exact (frzC (frzC (rsF_V1 o)))
    have rsL_V2 : w.heap.size + 1 + 1 < V2.heap.size := by rw [← hWn]; simpa using rsL_V1
    have rp0_V2 : V2.cell? ⟨w.heap.size + 1 + 1 + 1, 0, none⟩ = some (.bool false) := by rw [← hWn]; exact (cellC (cellC rp0_V1 nxrp) nxrp)
    have rp1_V2 : V2.cell? ⟨w.heap.size + 1 + 1 + 1, 1, none⟩ = some (.int .i64 0) := by rw [← hWn]; exact (cellC (cellC rp1_V1 nxrp) nxrp)
    have rp2_V2 : V2.cell? ⟨w.heap.size + 1 + 1 + 1, 2, none⟩ = some (.int .i64 0) := by rw [← hWn]; exact (cellC (cellC rp2_V1 nxrp) nxrp)
    have rp3_V2 : V2.cell? ⟨w.heap.size + 1 + 1 + 1, 3, none⟩ = some (.int .i64 0) := by rw [← hWn]; exact (cellC (cellC rp3_V1 nxrp) nxrp)
    have rpF_V2 : ∀ o, V2.frozen? ⟨w.heap.size + 1 + 1 + 1, o, none⟩ = false := fun o => by rw [← hWn]; exact (frzC (frzC (rpF_V1 o)))
    have rpL_V2 : w.heap.size + 1 + 1 + 1 < V2.heap.size := by rw [← hWn]; simpa using rpL_V1
    have ot0_V2 : V2.cell? ⟨w5.heap.size, 0, none⟩ = some (.slice a5 np c5) := by rw [← hWn]; exact (cellC (cellC ot0_V1 nxot) nxot)
    have ot1_V2 : V2.cell? ⟨w5.heap.size, 1, none⟩ = some (.slice b5 nb d5) := by rw [← hWn]; exact (cellC (cellC ot1_V1 nxot) nxot)
    have otF_V2 : ∀ o, V2.frozen? ⟨w5.heap.size, o, none⟩ = false := fun o => by rw [← hWn]; exact (frzC (frzC (otF_V1 o)))
    have otL_V2 : w5.heap.size < V2.heap.size := by rw [← hWn]; simpa using otL_V1
    have no0_V2 : V2.cell? ⟨w5.heap.size + 1, 0, none⟩ = some (.bool false) := by rw [← hWn]; exact (cellC (cellC no0_V1 nxno) nxno)
    have no1_V2 : V2.cell? ⟨w5.heap.size + 1, 1, none⟩ = some (.int .i64 0) := by rw [← hWn]; exact (cellC (cellC no1_V1 nxno) nxno)
    have no2_V2 : V2.cell? ⟨w5.heap.size + 1, 2, none⟩ = some (.int .i64 0) := by rw [← hWn]; exact (cellC (cellC no2_V1 nxno) nxno)
    have no3_V2 : V2.cell? ⟨w5.heap.size + 1, 3, none⟩ = some (.int .i64 0) := by rw [← hWn]; exact (cellC (cellC no3_V1 nxno) nxno)
    have noF_V2 : ∀ o, V2.frozen? ⟨w5.heap.size + 1, o, none⟩ = false := fun o => by rw [← hWn]; exact (frzC (frzC (noF_V1 o)))
    have noL_V2 : w5.heap.size + 1 < V2.heap.size := by rw [← hWn]; simpa using noL_V1
    have oP_V2 : Hid (OwnG KPl 46 V2 (W4.heap.size) (.slice a5 np c5) (ps)) := hidP (by rw [← hWn]; exact (OwnG.grown (OwnG.grown oP_V1.out (grown_cellG _ _ _ _) ryP) (grown_cellG _ _ _ _) ryP))
    have oQ_V2 : Hid (OwnG KBk 38 V2 (W4.heap.size) (.slice b5 nb d5) (bs)) := hidP (by rw [← hWn]; exact (OwnG.grown (OwnG.grown oQ_V1.out (grown_cellG _ _ _ _) ryQ) (grown_cellG _ _ _ _) ryQ))
    have acc_V2 : Hid (Below w.heap.size w V2) := hidP (by rw [← hWn]; exact (Below.setCell (Below.setCell acc_V1.out lw _) lw _))
    have sz_V2 : Hid (V2.heap.size = V1.heap.size) := hidP (by rw [← hWn]; simp)
    clear hWn nxrp nxot nxno ryP ryQ lw rs0_V1 rs1_V1 rsF_V1 rsL_V1 rp0_V1 rp1_V1 rp2_V1 rp3_V1 rpF_V1 rpL_V1 ot0_V1 ot1_V1 otF_V1 otL_V1 no0_V1 no1_V1 no2_V1 no3_V1 noF_V1 noL_V1 oP_V1 oQ_V1 acc_V1
    refine wpAnyH_ready (rs := [3]) (by kernel_rfl) (by simp) ?_
    refine AllReadyH.cons rfl (fun K hK => ?_) AllReadyH.nil
    go_simp
    have nxrs : w.heap.size + 1 + 1 ≠ w.heap.size + 1 + 1 + 1 := (by have := HOR2.out; have := sz_w10.out; have := sz_V1.out; have := sz_V2.out; omega)
    have nxot : w5.heap.size ≠ w.heap.size + 1 + 1 + 1 := (by have := HOR2.out; have := sz_w10.out; have := sz_V1.out; have := sz_V2.out; omega)
    have nxno : w5.heap.size + 1 ≠ w.heap.size + 1 + 1 + 1 := (by have := HOR2.out; have := sz_w10.out; have := sz_V1.out; have := sz_V2.out; omega)
    refine hK.out _ _ ?_ (fun hHeld => ?_)
    · try dsimp only
      exact ⟨(cellC (cellC (cellC (cellC ot0_V2 nxot) nxot) nxot) nxot), (cellC (cellC (cellC (cellC ot1_V2 nxot) nxot) nxot) nxot), (cellC (cellC (cellC (cellC no0_V2 nxno) nxno) nxno) nxno), (cellC (cellC (cellC (cellC no1_V2 nxno) nxno) nxno) nxno), (cellC (cellC (cellC (cellC no2_V2 nxno) nxno) nxno) nxno), (cellC (cellC (cellC (cellC no3_V2 nxno) nxno) nxno) nxno)⟩
    clear hK K
    clear nxot nxno
    clear ot0_V2 ot1_V2 otF_V2 otL_V2
    clear no0_V2 no1_V2 no2_V2 no3_V2 noF_V2 noL_V2
    have ryP : ∀ k, (Value.slice a5 np c5).ownBlock = some k → some (w.heap.size + 1 + 1 + 1) ≠ some k := (fun k hk e => by have h5 := lhP.out k hk; have h6 := Option.some.inj e; have := HOR2.out; have := sz_w10.out; have := sz_V1.out; have := sz_V2.out; omega)
    have ryQ : ∀ k, (Value.slice b5 nb d5).ownBlock = some k → some (w.heap.size + 1 + 1 + 1) ≠ some k := (fun k hk e => by have h5 := lhQ.out k hk; have h6 := Option.some.inj e; have := HOR2.out; have := sz_w10.out; have := sz_V1.out; have := sz_V2.out; omega)
    have lw : w.heap.size ≤ w.heap.size + 1 + 1 + 1 := (by have := HOR2.out; have := sz_w10.out; have := sz_V1.out; have := sz_V2.out; omega)
    generalize hWn : (((V2.setCell ⟨w.heap.size + 1 + 1 + 1, 0, none⟩ (.bool false)).setCell ⟨w.heap.size + 1 + 1 + 1, 1, none⟩ (.int .i64 0)).setCell ⟨w.heap.size + 1 + 1 + 1, 2, none⟩ (.int .i64 0)).setCell ⟨w.heap.size + 1 + 1 + 1, 3, none⟩ (.int .i64 0) = V3 at *
    have rp0_V3 : V3.cell? ⟨w.heap.size + 1 + 1 + 1, 0, none⟩ = some (.bool false) := by rw [← hWn]; simp [go_sem, rp0_V2]
    have rp1_V3 : V3.cell? ⟨w.heap.size + 1 + 1 + 1, 1, none⟩ = some (.int .i64 0) := by rw [← hWn]; simp [go_sem, rp1_V2]
    have rp2_V3 : V3.cell? ⟨w.heap.size + 1 + 1 + 1, 2, none⟩ = some (.int .i64 0) := by rw [← hWn]; simp [go_sem, rp2_V2]
    have rp3_V3 : V3.cell? ⟨w.heap.size + 1 + 1 + 1, 3, none⟩ = some (.int .i64 0) := by rw [← hWn]; simp [go_sem, rp3_V2]
    have rs0_V3 : V3.cell? ⟨w.heap.size + 1 + 1, 0, none⟩ = some (.slice a5 np c5) := by rw [← hWn]; exact (cellC (cellC (cellC (cellC rs0_V2 nxrs) nxrs) nxrs) nxrs)
    have rs1_V3 : V3.cell? ⟨w.heap.size + 1 + 1, 1, none⟩ = some (.slice b5 nb d5) := by rw [← hWn]; exact (cellC (cellC (cellC (cellC rs1_V2 nxrs) nxrs) nxrs) nxrs)
    have rsF_V3 : ∀ o, V3.frozen? ⟨w.heap.size + 1 + 1, o, none⟩ = false := fun o => by rw [← hWn]; exact (frzC (frzC (frzC (frzC (rsF_V2 o)))))
    have rsL_V3 : w.heap.size + 1 + 1 < V3.heap.size := by rw [← hWn]; simpa using rsL_V2
    have rpF_V3 : ∀ o, V3.frozen? ⟨w.heap.size + 1 + 1 + 1, o, none⟩ = false := fun o => by rw [← hWn]; exact (frzC (frzC (frzC (frzC (rpF_V2 o)))))
    have rpL_V3 : w.heap.size + 1 + 1 + 1 < V3.heap.size := by rw [← hWn]; simpa using rpL_V2
    have oP_V3 : Hid (OwnG KPl 46 V3 (W4.heap.size) (.slice a5 np c5) (ps)) := hidP (by rw [← hWn]; exact (OwnG.grown (OwnG.grown (OwnG.grown (OwnG.grown oP_V2.out (grown_cellG _ _ _ _) ryP) (grown_cellG _ _ _ _) ryP) (grown_cellG _ _ _ _) ryP) (grown_cellG _ _ _ _) ryP))
    have oQ_V3 : Hid (OwnG KBk 38 V3 (W4.heap.size) (.slice b5 nb d5) (bs)) := hidP (by rw [← hWn]; exact (OwnG.grown (OwnG.grown (OwnG.grown (OwnG.grown oQ_V2.out (grown_cellG _ _ _ _) ryQ) (grown_cellG _ _ _ _) ryQ) (grown_cellG _ _ _ _) ryQ) (grown_cellG _ _ _ _) ryQ))
    have acc_V3 : Hid (Below w.heap.size w V3) := hidP (by rw [← hWn]; exact (Below.setCell (Below.setCell (Below.setCell (Below.setCell acc_V2.out lw _) lw _) lw _) lw _))
    have sz_V3 : Hid (V3.heap.size = V2.heap.size) := hidP (by rw [← hWn]; simp)
    clear hWn nxrs ryP ryQ lw rp0_V2 rp1_V2 rp2_V2 rp3_V2 rs0_V2 rs1_V2 rsF_V2 rsL_V2 rpF_V2 rpL_V2 oP_V2 oQ_V2 acc_V2
    refine tk 4 8 rfl ?_
    simp only [pa]
    refine wpAnyH_done (by kernel_rfl) ?_ _
    clear hHeld
    go_wp2_with fail
    have eO := HO.out.trans (cv5 H1.out H2.out H3.out (by have := H4.out; omega) (HN.out.2.symm.trans H5.out))
    subst eO
    refine bodyPost_ret (v := .tuple #[.agg #[.slice a5 np c5, .slice b5 nb d5], .agg #[.bool false, .int .i64 0, .int .i64 0, .int .i64 0], .int .i64 2]) (by simp [results, Tryz.results9, go_sem, rs0_V3, rs1_V3, rp0_V3, rp1_V3, rp2_V3, rp3_V3]) rfl ⟨_, _, _, _, _, rfl, ?_, ?_, ?_, ?_, ?_⟩
    · exact HN.out.2
    · have hB : w.heap.size + 1 + 1 + 1 < W4.heap.size ∧ w.heap.size ≤ W4.heap.size := (by have := HOR2.out; have := sz_w10.out; have := sz_V1.out; have := sz_V2.out; have := sz_V3.out; omega)
      refine OwnG.mono (B := W4.heap.size) ?_ hB.2
      repeat (first | (with_reducible refine OwnG.drewC ?_) | (with_reducible refine OwnG.grown ?_ (grown_cellG _ _ _ _) ?_; rotate_left; (focus (exact OwnG.ne_ofC oP_V3.out (by omega)))))
      with_reducible exact oP_V3.out
    · have hB : w.heap.size + 1 + 1 + 1 < W4.heap.size ∧ w.heap.size ≤ W4.heap.size := (by have := HOR2.out; have := sz_w10.out; have := sz_V1.out; have := sz_V2.out; have := sz_V3.out; omega)
      refine OwnG.mono (B := W4.heap.size) ?_ hB.2
      repeat (first | (with_reducible refine OwnG.drewC ?_) | (with_reducible refine OwnG.grown ?_ (grown_cellG _ _ _ _) ?_; rotate_left; (focus (exact OwnG.ne_ofC oQ_V3.out (by omega)))))
      with_reducible exact oQ_V3.out
    · exact ne5.out
    · repeat (first | (with_reducible refine Below.drew ?_) | (with_reducible refine Below.setCell ?_ ?_ _; rotate_left; (focus (first | (simp; done) | (simp; omega) | (dsimp only; have := HOR2.out; have := sz_w10.out; have := sz_V1.out; have := sz_V2.out; have := sz_V3.out; omega)))))
      exact acc_V3.out
  have e5 : ((nb : Int) == 60) = false := by simp; omega
  have H5 : Hid (¬ bs.length = 60) := hidP (by have := HN.out.2; omega)
  clear h5
  obtain ⟨F, B, hV, hC⟩ := frs_ex bits zs
  have HFi : Hid (cvFS pt (fil bs pt) bits zs) := hidP (HFF.out H2.out (by have := HN.out.2; omega))
  unfold cvFS at HFi
  rw [hV] at HFi
  unfold cvPG at HFi
  have HC := hidP hC
  have HB9 : Hid (∀ W, Below w10.heap.size w10 W → _) := hidP (fun W h' => l5Blocks_any pt ap np cp ab nb cb bs W HN.out.2 (HRB.out.later (acc_w10.out.trans (h'.mono acc_w10.out.size))) (by omega))
  clear hV hC
  obtain ⟨pp, oo, q', hpa, hpp, hq', _, _, _, _, hbc⟩ := rowPl (HRP.out.later acc_w10.out) j (by have := HN.out.1; omega)
  have hqq : q = q' := Option.some.inj (HJ.out.1.symm.trans hq')
  subst hqq
  rw [← HJ.out.2] at hbc
  subst hpa
  clear hq'
  go_upto_region 10 with fail
  go_cut [12, 13] (fun t12 t13 X => ∃ p : Nat, t12 = .pointer (some ⟨p, 0, none⟩) ∧ t13 = .bool B ∧ w10.heap.size ≤ p ∧ p < X.heap.size ∧ X.cell? ⟨p, 0, none⟩ = some (.bool F.s) ∧ X.cell? ⟨p, 1, none⟩ = some (.int .i64 F.H.toInt) ∧ X.cell? ⟨p, 2, none⟩ = some (.int .i64 F.L.toInt) ∧ X.cell? ⟨p, 3, none⟩ = some (.int .i64 F.b) ∧ (∀ o, X.frozen? ⟨p, o, none⟩ = false) ∧ Below w10.heap.size w10 X)
  case first => as_aux_lemma =>
    have HSx : Hid (∀ x, Below w10.heap.size w10 x → (x.cell? ⟨w.heap.size, 0, none⟩ = some (.slice (some ⟨pp, oo, none⟩) np cp) ∧ x.cell? ⟨w.heap.size, 1, none⟩ = some (.slice ab nb cb) ∧ x.cell? ⟨w.heap.size + 1, 0, none⟩ = some (.bool pt.s) ∧ x.cell? ⟨w.heap.size + 1, 1, none⟩ = some (.int .i64 pt.H.toInt) ∧ x.cell? ⟨w.heap.size + 1, 2, none⟩ = some (.int .i64 pt.L.toInt) ∧ x.cell? ⟨w.heap.size + 1, 3, none⟩ = some (.int .i64 pt.b) ∧ x.cell? ⟨pp, oo + j * 5 + 4, none⟩ = some (.int .i64 bits) ∧ Below w10.heap.size w10 x)) := hidP fun x h =>
      ⟨(h.cell pbL_w10).trans pb0_w10, (h.cell pbL_w10).trans pb1_w10, (h.cell atL_w10).trans at0_w10, (h.cell atL_w10).trans at1_w10, (h.cell atL_w10).trans at2_w10, (h.cell atL_w10).trans at3_w10, (h.cell hpp).trans hbc, h⟩
    refine wp_region_held_drew (S := (fun x => x.cell? ⟨w.heap.size, 0, none⟩ = some (.slice (some ⟨pp, oo, none⟩) np cp) ∧ x.cell? ⟨w.heap.size, 1, none⟩ = some (.slice ab nb cb) ∧ x.cell? ⟨w.heap.size + 1, 0, none⟩ = some (.bool pt.s) ∧ x.cell? ⟨w.heap.size + 1, 1, none⟩ = some (.int .i64 pt.H.toInt) ∧ x.cell? ⟨w.heap.size + 1, 2, none⟩ = some (.int .i64 pt.L.toInt) ∧ x.cell? ⟨w.heap.size + 1, 3, none⟩ = some (.int .i64 pt.b) ∧ x.cell? ⟨pp, oo + j * 5 + 4, none⟩ = some (.int .i64 bits) ∧ Below w10.heap.size w10 x)) (by kernel_rfl) ?_ (fun hHeld => ?_)
    · try dsimp only
      exact HSx.out _ (Below.refl _ _).drew
    refine tk 0 47 rfl ?_
    simp only [pa]
    refine tk 1 48 rfl ?_
    simp only [pa]
    refine tk 2 49 rfl ?_
    simp only [pa]
    refine tk 4 51 rfl ?_
    simp only [pa]
    refine tk 5 52 rfl ?_
    simp only [pa]
    refine tk 6 53 rfl ?_
    simp only [pa]
    refine tk 7 54 rfl ?_
    simp only [pa]
    refine tk 8 55 rfl ?_
    simp only [pa]
    refine tk 9 56 rfl ?_
    simp only [pa]
    refine wpAnyH_ready (rs := [3, 14]) (by kernel_rfl) (by simp) ?_
    refine AllReadyH.cons rfl (fun K hK => ?_) (AllReadyH.cons rfl (fun K hK => ?_) AllReadyH.nil)
    · go_simp
      go_wp2_with (first | (go_at_call 46; refine (HB9.out _ (hHeld.2.2.2.2.2.2.2)).mono ?_; rintro e w20 ⟨a20, c20, rfl, o20, hb20⟩; have b20 := (hHeld.2.2.2.2.2.2.2).trans (hb20.mono (hHeld.2.2.2.2.2.2.2).size)))
      refine hK.out _ _ ?_ (fun hHeld => ?_)
      · try dsimp only
        exact HSx.out _ b20
      clear hK K
      refine wpAnyH_ready (rs := [10, 14]) (by kernel_rfl) (by simp) ?_
      refine AllReadyH.cons rfl (fun K hK => ?_) (AllReadyH.cons rfl (fun K hK => ?_) AllReadyH.nil)
      · go_simp
        go_wp2_with (first | (go_at_call 45; refine (HFi.out a20 c20 _ o20.row).mono ?_; rintro e w21 ⟨rfl, hb21⟩; have b21 := (hHeld.2.2.2.2.2.2.2).trans (hb21.mono (hHeld.2.2.2.2.2.2.2).size)))
        refine hK.out _ _ ?_ (fun hHeld => ?_)
        · try dsimp only
          exact HSx.out _ b21
        clear hK K
        refine tk 11 46 rfl ?_
        simp only [pa]
        refine tk 12 58 rfl ?_
        simp only [pa]
        refine tk 13 59 rfl ?_
        simp only [pa]
        refine wpAnyH_ready (rs := [14]) (by kernel_rfl) (by simp) ?_
        refine AllReadyH.cons rfl (fun K hK => ?_) AllReadyH.nil
        go_simp
        obtain ⟨z22x0, z22x1, z22x2, z22x3⟩ := box4Z w21 31
        have z22F := frz4Z w21 31
        have z22B := alloc_below w21 (.cells #[.bool false, .int .i64 0, .int .i64 0, .int .i64 0] 31)
        have z22L := alloc_ltC w21 (.cells #[.bool false, .int .i64 0, .int .i64 0, .int .i64 0] 31)
        have z22M := (hHeld.2.2.2.2.2.2.2).trans (z22B.mono (hHeld.2.2.2.2.2.2.2).size)
        generalize w21.alloc (.cells #[.bool false, .int .i64 0, .int .i64 0, .int .i64 0] 31) = w22 at *
        refine hK.out _ _ ?_ (fun hHeld => ?_)
        · try dsimp only
          exact HSx.out _ z22M
        clear hK K
        have bl22 : w10.heap.size ≤ w21.heap.size := b21.size
        refine wpAnyH_ready (rs := [15]) (by kernel_rfl) (by simp) ?_
        refine AllReadyH.cons rfl (fun K hK => ?_) AllReadyH.nil
        go_simp
        refine hK.out _ _ ?_ (fun hHeld => ?_)
        · try dsimp only
          refine HSx.out _ ?_
          repeat (with_reducible refine Below.setCell ?_ ?_ _; rotate_left; (focus (exact (bl22))))
          exact (hHeld.2.2.2.2.2.2.2)
        clear hK K
        refine tk 16 13 rfl ?_
        simp only [pa]
        have HE := hidP (hHeld.2.2.2.2.2.2.2)
        refine wpAnyH_done (by kernel_rfl) ?_ _
        clear hHeld
        go_wp2_with fail
        go_meet
        refine ⟨_, rfl, rfl, bl22, ?_, ?_, ?_, ?_, ?_, ?_, HE.out⟩
        · simp; exact z22L
        iterate 4 (· simp [go_sem, z22x0, z22x1, z22x2, z22x3])
        · intro o; simp [go_sem, z22F o]
      · go_simp
        obtain ⟨z21x0, z21x1, z21x2, z21x3⟩ := box4Z w20 31
        have z21F := frz4Z w20 31
        have z21B := alloc_below w20 (.cells #[.bool false, .int .i64 0, .int .i64 0, .int .i64 0] 31)
        have z21L := alloc_ltC w20 (.cells #[.bool false, .int .i64 0, .int .i64 0, .int .i64 0] 31)
        have z21M := (hHeld.2.2.2.2.2.2.2).trans (z21B.mono (hHeld.2.2.2.2.2.2.2).size)
        generalize w20.alloc (.cells #[.bool false, .int .i64 0, .int .i64 0, .int .i64 0] 31) = w21 at *
        refine hK.out _ _ ?_ (fun hHeld => ?_)
        · try dsimp only
          exact HSx.out _ z21M
        clear hK K
        have bl21 : w10.heap.size ≤ w20.heap.size := b20.size
        refine wpAnyH_ready (rs := [10]) (by kernel_rfl) (by simp) ?_
        refine AllReadyH.cons rfl (fun K hK => ?_) AllReadyH.nil
        go_simp
        go_wp2_with (first | (go_at_call 45; refine (HFi.out a20 c20 _ (Row.later o20.row z21B)).mono ?_; rintro e w22 ⟨rfl, hb22⟩; have b22 := (hHeld.2.2.2.2.2.2.2).trans (hb22.mono (hHeld.2.2.2.2.2.2.2).size)))
        refine hK.out _ _ ?_ (fun hHeld => ?_)
        · try dsimp only
          exact HSx.out _ b22
        clear hK K
        have z22x0 := (hb22.cell z21L).trans z21x0
        have z22x1 := (hb22.cell z21L).trans z21x1
        have z22x2 := (hb22.cell z21L).trans z21x2
        have z22x3 := (hb22.cell z21L).trans z21x3
        have z22F : ∀ o, w22.frozen? ⟨w20.heap.size, o, none⟩ = false := fun o => (hb22.frozen z21L).trans (z21F o)
        have z22L : w20.heap.size < w22.heap.size := Nat.lt_of_lt_of_le z21L hb22.size
        clear z21x0 z21x1 z21x2 z21x3 z21F
        refine tk 11 46 rfl ?_
        simp only [pa]
        refine tk 12 58 rfl ?_
        simp only [pa]
        refine tk 13 59 rfl ?_
        simp only [pa]
        refine wpAnyH_ready (rs := [15]) (by kernel_rfl) (by simp) ?_
        refine AllReadyH.cons rfl (fun K hK => ?_) AllReadyH.nil
        go_simp
        refine hK.out _ _ ?_ (fun hHeld => ?_)
        · try dsimp only
          refine HSx.out _ ?_
          repeat (with_reducible refine Below.setCell ?_ ?_ _; rotate_left; (focus (exact (bl21))))
          exact (hHeld.2.2.2.2.2.2.2)
        clear hK K
        refine tk 16 13 rfl ?_
        simp only [pa]
        have HE := hidP (hHeld.2.2.2.2.2.2.2)
        refine wpAnyH_done (by kernel_rfl) ?_ _
        clear hHeld
        go_wp2_with fail
        go_meet
        refine ⟨_, rfl, rfl, bl21, ?_, ?_, ?_, ?_, ?_, ?_, HE.out⟩
        · simp; exact z22L
        iterate 4 (· simp [go_sem, z22x0, z22x1, z22x2, z22x3])
        · intro o; simp [go_sem, z22F o]
    · go_simp
      obtain ⟨z20x0, z20x1, z20x2, z20x3⟩ := box4Z w10 31
      have z20F := frz4Z w10 31
      have z20B := alloc_below w10 (.cells #[.bool false, .int .i64 0, .int .i64 0, .int .i64 0] 31)
      have z20L := alloc_ltC w10 (.cells #[.bool false, .int .i64 0, .int .i64 0, .int .i64 0] 31)
      have z20x0 := (drew_cellC (w10.alloc (.cells #[.bool false, .int .i64 0, .int .i64 0, .int .i64 0] 31)) _).trans z20x0
      have z20x1 := (drew_cellC (w10.alloc (.cells #[.bool false, .int .i64 0, .int .i64 0, .int .i64 0] 31)) _).trans z20x1
      have z20x2 := (drew_cellC (w10.alloc (.cells #[.bool false, .int .i64 0, .int .i64 0, .int .i64 0] 31)) _).trans z20x2
      have z20x3 := (drew_cellC (w10.alloc (.cells #[.bool false, .int .i64 0, .int .i64 0, .int .i64 0] 31)) _).trans z20x3
      have z20F := fun o => (drew_frozenC (w10.alloc (.cells #[.bool false, .int .i64 0, .int .i64 0, .int .i64 0] 31)) _).trans (z20F o)
      have z20L := drew_ltC z20L
      have z20M := z20B.drew
      generalize (w10.alloc (.cells #[.bool false, .int .i64 0, .int .i64 0, .int .i64 0] 31)).drew = w20 at *
      refine hK.out _ _ ?_ (fun hHeld => ?_)
      · try dsimp only
        exact HSx.out _ z20M
      clear hK K
      have bl20 : w10.heap.size ≤ w10.heap.size := Nat.le_refl _
      refine wpAnyH_ready (rs := [3]) (by kernel_rfl) (by simp) ?_
      refine AllReadyH.cons rfl (fun K hK => ?_) AllReadyH.nil
      go_simp
      go_wp2_with (first | (go_at_call 46; refine (HB9.out _ (hHeld.2.2.2.2.2.2.2)).mono ?_; rintro e w21 ⟨a21, c21, rfl, o21, hb21⟩; have b21 := (hHeld.2.2.2.2.2.2.2).trans (hb21.mono (hHeld.2.2.2.2.2.2.2).size)))
      refine hK.out _ _ ?_ (fun hHeld => ?_)
      · try dsimp only
        exact HSx.out _ b21
      clear hK K
      have z21x0 := (hb21.cell z20L).trans z20x0
      have z21x1 := (hb21.cell z20L).trans z20x1
      have z21x2 := (hb21.cell z20L).trans z20x2
      have z21x3 := (hb21.cell z20L).trans z20x3
      have z21F : ∀ o, w21.frozen? ⟨w10.heap.size, o, none⟩ = false := fun o => (hb21.frozen z20L).trans (z20F o)
      have z21L : w10.heap.size < w21.heap.size := Nat.lt_of_lt_of_le z20L hb21.size
      clear z20x0 z20x1 z20x2 z20x3 z20F
      refine wpAnyH_ready (rs := [10]) (by kernel_rfl) (by simp) ?_
      refine AllReadyH.cons rfl (fun K hK => ?_) AllReadyH.nil
      go_simp
      go_wp2_with (first | (go_at_call 45; refine (HFi.out a21 c21 _ o21.row).mono ?_; rintro e w22 ⟨rfl, hb22⟩; have b22 := (hHeld.2.2.2.2.2.2.2).trans (hb22.mono (hHeld.2.2.2.2.2.2.2).size)))
      refine hK.out _ _ ?_ (fun hHeld => ?_)
      · try dsimp only
        exact HSx.out _ b22
      clear hK K
      have z22x0 := (hb22.cell z21L).trans z21x0
      have z22x1 := (hb22.cell z21L).trans z21x1
      have z22x2 := (hb22.cell z21L).trans z21x2
      have z22x3 := (hb22.cell z21L).trans z21x3
      have z22F : ∀ o, w22.frozen? ⟨w10.heap.size, o, none⟩ = false := fun o => (hb22.frozen z21L).trans (z21F o)
      have z22L : w10.heap.size < w22.heap.size := Nat.lt_of_lt_of_le z21L hb22.size
      clear z21x0 z21x1 z21x2 z21x3 z21F
      refine tk 11 46 rfl ?_
      simp only [pa]
      refine tk 12 58 rfl ?_
      simp only [pa]
      refine tk 13 59 rfl ?_
      simp only [pa]
      refine wpAnyH_ready (rs := [15]) (by kernel_rfl) (by simp) ?_
      refine AllReadyH.cons rfl (fun K hK => ?_) AllReadyH.nil
      go_simp
      refine hK.out _ _ ?_ (fun hHeld => ?_)
      · try dsimp only
        refine HSx.out _ ?_
        repeat (with_reducible refine Below.setCell ?_ ?_ _; rotate_left; (focus (exact (bl20))))
        exact (hHeld.2.2.2.2.2.2.2)
      clear hK K
      refine tk 16 13 rfl ?_
      simp only [pa]
      have HE := hidP (hHeld.2.2.2.2.2.2.2)
      refine wpAnyH_done (by kernel_rfl) ?_ _
      clear hHeld
      go_wp2_with fail
      go_meet
      refine ⟨_, rfl, rfl, bl20, ?_, ?_, ?_, ?_, ?_, ?_, HE.out⟩
      · simp; exact z22L
      iterate 4 (· simp [go_sem, z22x0, z22x1, z22x2, z22x3])
      · intro o; simp [go_sem, z22F o]
  case rest =>
    obtain ⟨pX, rfl, rfl, hpX, fbL_wc, fb0_wc, fb1_wc, fb2_wc, fb3_wc, fbF_wc, hX⟩ := hcut
    have HPX : Hid (w10.heap.size ≤ pX) := hidP hpX
    have rsP_wc := hidP (rsP_w10.out.later hX)
    have rpP_wc := hidP (rpP_w10.out.later hX)
    have noP_wc := hidP (noP_w10.out.later hX)
    have otP_wc := hidP (otP_w10.out.later hX)
    clear rsP_w10 rpP_w10 noP_w10 otP_w10
    have pb0_wc := (hX.cell pbL_w10).trans pb0_w10
    have pb1_wc := (hX.cell pbL_w10).trans pb1_w10
    have pbF_wc : ∀ o, wc.frozen? ⟨w.heap.size, o, none⟩ = false := fun o => (hX.frozen pbL_w10).trans (pbF_w10 o)
    have pbL_wc : w.heap.size < wc.heap.size := Nat.lt_of_lt_of_le pbL_w10 hX.size
    have at0_wc := (hX.cell atL_w10).trans at0_w10
    have at1_wc := (hX.cell atL_w10).trans at1_w10
    have at2_wc := (hX.cell atL_w10).trans at2_w10
    have at3_wc := (hX.cell atL_w10).trans at3_w10
    have atF_wc : ∀ o, wc.frozen? ⟨w.heap.size + 1, o, none⟩ = false := fun o => (hX.frozen atL_w10).trans (atF_w10 o)
    have atL_wc : w.heap.size + 1 < wc.heap.size := Nat.lt_of_lt_of_le atL_w10 hX.size
    have oP_wc := hidP (OwnG.later oP_w10.out hX)
    have oQ_wc := hidP (OwnG.later oQ_w10.out hX)
    have acc_wc := hidP (acc_w10.out.trans (hX.mono acc_w10.out.size))
    have sz_wc : Hid (w10.heap.size ≤ wc.heap.size) := hidP hX.size
    clear hX pb0_w10 pb1_w10 pbF_w10 pbL_w10 at0_w10 at1_w10 at2_w10 at3_w10 atF_w10 atL_w10 oP_w10 oQ_w10 acc_w10
    clear hpX
    clear hbc hpp
    clear pb0_wc pb1_wc pbF_wc pbL_wc
    clear at0_wc at1_wc at2_wc at3_wc atF_wc atL_wc
    cases B
    · have hz : zs = [] := by rcases HC.out with ⟨_, h⟩ | ⟨h, _⟩; exact h; cases h
      subst hz
      go_wp2_with fail
      clear fb0_wc fb1_wc fb2_wc fb3_wc fbF_wc fbL_wc
      have rs0_wc := rsP_wc.out.1 0 _ rfl
      have rs1_wc := rsP_wc.out.1 1 _ rfl
      have rsF_wc := rsP_wc.out.2.1
      have rsL_wc := rsP_wc.out.2.2
      clear rsP_wc
      have rp0_wc := rpP_wc.out.1 0 _ rfl
      have rp1_wc := rpP_wc.out.1 1 _ rfl
      have rp2_wc := rpP_wc.out.1 2 _ rfl
      have rp3_wc := rpP_wc.out.1 3 _ rfl
      have rpF_wc := rpP_wc.out.2.1
      have rpL_wc := rpP_wc.out.2.2
      clear rpP_wc
      have ot0_wc := otP_wc.out.1 0 _ rfl
      have ot1_wc := otP_wc.out.1 1 _ rfl
      have otF_wc := otP_wc.out.2.1
      have otL_wc := otP_wc.out.2.2
      clear otP_wc
      have no0_wc := noP_wc.out.1 0 _ rfl
      have no1_wc := noP_wc.out.1 1 _ rfl
      have no2_wc := noP_wc.out.1 2 _ rfl
      have no3_wc := noP_wc.out.1 3 _ rfl
      have noF_wc := noP_wc.out.2.1
      have noL_wc := noP_wc.out.2.2
      clear noP_wc
      have hbd := (Below.refl wc.heap.size wc).drew
      refine wp_region_held_drew (S := (fun x => x.cell? ⟨w5.heap.size, 0, none⟩ = some (.slice a5 np c5) ∧ x.cell? ⟨w5.heap.size, 1, none⟩ = some (.slice b5 nb d5) ∧ x.cell? ⟨w5.heap.size + 1, 0, none⟩ = some (.bool false) ∧ x.cell? ⟨w5.heap.size + 1, 1, none⟩ = some (.int .i64 0) ∧ x.cell? ⟨w5.heap.size + 1, 2, none⟩ = some (.int .i64 0) ∧ x.cell? ⟨w5.heap.size + 1, 3, none⟩ = some (.int .i64 0))) (by kernel_rfl) ?_ (fun hHeld => ?_)
      · try dsimp only
        exact ⟨(hbd.cell otL_wc).trans ot0_wc, (hbd.cell otL_wc).trans ot1_wc, (hbd.cell noL_wc).trans no0_wc, (hbd.cell noL_wc).trans no1_wc, (hbd.cell noL_wc).trans no2_wc, (hbd.cell noL_wc).trans no3_wc⟩
      generalize wc.drew = V1 at *
      have rs0_V1 := (hbd.cell rsL_wc).trans rs0_wc
      have rs1_V1 := (hbd.cell rsL_wc).trans rs1_wc
      have rsF_V1 : ∀ o, V1.frozen? ⟨w.heap.size + 1 + 1, o, none⟩ = false := fun o => (hbd.frozen rsL_wc).trans (rsF_wc o)
      have rsL_V1 : w.heap.size + 1 + 1 < V1.heap.size := Nat.lt_of_lt_of_le rsL_wc hbd.size
      have rp0_V1 := (hbd.cell rpL_wc).trans rp0_wc
      have rp1_V1 := (hbd.cell rpL_wc).trans rp1_wc
      have rp2_V1 := (hbd.cell rpL_wc).trans rp2_wc
      have rp3_V1 := (hbd.cell rpL_wc).trans rp3_wc
      have rpF_V1 : ∀ o, V1.frozen? ⟨w.heap.size + 1 + 1 + 1, o, none⟩ = false := fun o => (hbd.frozen rpL_wc).trans (rpF_wc o)
      have rpL_V1 : w.heap.size + 1 + 1 + 1 < V1.heap.size := Nat.lt_of_lt_of_le rpL_wc hbd.size
      have ot0_V1 := (hbd.cell otL_wc).trans ot0_wc
      have ot1_V1 := (hbd.cell otL_wc).trans ot1_wc
      have otF_V1 : ∀ o, V1.frozen? ⟨w5.heap.size, o, none⟩ = false := fun o => (hbd.frozen otL_wc).trans (otF_wc o)
      have otL_V1 : w5.heap.size < V1.heap.size := Nat.lt_of_lt_of_le otL_wc hbd.size
      have no0_V1 := (hbd.cell noL_wc).trans no0_wc
      have no1_V1 := (hbd.cell noL_wc).trans no1_wc
      have no2_V1 := (hbd.cell noL_wc).trans no2_wc
      have no3_V1 := (hbd.cell noL_wc).trans no3_wc
      have noF_V1 : ∀ o, V1.frozen? ⟨w5.heap.size + 1, o, none⟩ = false := fun o => (hbd.frozen noL_wc).trans (noF_wc o)
      have noL_V1 : w5.heap.size + 1 < V1.heap.size := Nat.lt_of_lt_of_le noL_wc hbd.size
      have oP_V1 := hidP (OwnG.later oP_wc.out hbd)
      have oQ_V1 := hidP (OwnG.later oQ_wc.out hbd)
      have acc_V1 := hidP (acc_wc.out.trans (hbd.mono acc_wc.out.size))
      have sz_V1 : Hid (wc.heap.size ≤ V1.heap.size) := hidP hbd.size
      clear hbd rs0_wc rs1_wc rsF_wc rsL_wc rp0_wc rp1_wc rp2_wc rp3_wc rpF_wc rpL_wc ot0_wc ot1_wc otF_wc otL_wc no0_wc no1_wc no2_wc no3_wc noF_wc noL_wc oP_wc oQ_wc acc_wc
      refine tk 0 62 rfl ?_
      simp only [pa]
      refine tk 1 63 rfl ?_
      simp only [pa]
      refine wpAnyH_ready (rs := [2]) (by kernel_rfl) (by simp) ?_
      refine AllReadyH.cons rfl (fun K hK => ?_) AllReadyH.nil
      go_simp
      have nxrp : w.heap.size + 1 + 1 + 1 ≠ w.heap.size + 1 + 1 := (by have := HOR2.out; have := sz_w10.out; have := sz_wc.out; have := HPX.out; have := sz_V1.out; omega)
      have nxot : w5.heap.size ≠ w.heap.size + 1 + 1 := (by have := HOR2.out; have := sz_w10.out; have := sz_wc.out; have := HPX.out; have := sz_V1.out; omega)
      have nxno : w5.heap.size + 1 ≠ w.heap.size + 1 + 1 := (by have := HOR2.out; have := sz_w10.out; have := sz_wc.out; have := HPX.out; have := sz_V1.out; omega)
      refine hK.out _ _ ?_ (fun hHeld => ?_)
      · try dsimp only
        exact ⟨(cellC (cellC ot0_V1 nxot) nxot), (cellC (cellC ot1_V1 nxot) nxot), (cellC (cellC no0_V1 nxno) nxno), (cellC (cellC no1_V1 nxno) nxno), (cellC (cellC no2_V1 nxno) nxno), (cellC (cellC no3_V1 nxno) nxno)⟩
      clear hK K
      have ryP : ∀ k, (Value.slice a5 np c5).ownBlock = some k → some (w.heap.size + 1 + 1) ≠ some k := (fun k hk e => by have h5 := lhP.out k hk; have h6 := Option.some.inj e; have := HOR2.out; have := sz_w10.out; have := sz_wc.out; have := HPX.out; have := sz_V1.out; omega)
      have ryQ : ∀ k, (Value.slice b5 nb d5).ownBlock = some k → some (w.heap.size + 1 + 1) ≠ some k := (fun k hk e => by have h5 := lhQ.out k hk; have h6 := Option.some.inj e; have := HOR2.out; have := sz_w10.out; have := sz_wc.out; have := HPX.out; have := sz_V1.out; omega)
      have lw : w.heap.size ≤ w.heap.size + 1 + 1 := (by have := HOR2.out; have := sz_w10.out; have := sz_wc.out; have := HPX.out; have := sz_V1.out; omega)
      generalize hWn : (V1.setCell ⟨w.heap.size + 1 + 1, 0, none⟩ (.slice a5 np c5)).setCell ⟨w.heap.size + 1 + 1, 1, none⟩ (.slice b5 nb d5) = V2 at *
      have rs0_V2 : V2.cell? ⟨w.heap.size + 1 + 1, 0, none⟩ = some (.slice a5 np c5) := by rw [← hWn]; simp [go_sem, rs0_V1]
      have rs1_V2 : V2.cell? ⟨w.heap.size + 1 + 1, 1, none⟩ = some (.slice b5 nb d5) := by rw [← hWn]; simp [go_sem, rs1_V1]
      have rsF_V2 : ∀ o, V2.frozen? ⟨w.heap.size + 1 + 1, o, none⟩ = false := fun o => by rw [← hWn]; exact (frzC (frzC (rsF_V1 o)))
      have rsL_V2 : w.heap.size + 1 + 1 < V2.heap.size := by rw [← hWn]; simpa using rsL_V1
      have rp0_V2 : V2.cell? ⟨w.heap.size + 1 + 1 + 1, 0, none⟩ = some (.bool false) := by rw [← hWn]; exact (cellC (cellC rp0_V1 nxrp) nxrp)
      have rp1_V2 : V2.cell? ⟨w.heap.size + 1 + 1 + 1, 1, none⟩ = some (.int .i64 0) := by rw [← hWn]; exact (cellC (cellC rp1_V1 nxrp) nxrp)
      have rp2_V2 : V2.cell? ⟨w.heap.size + 1 + 1 + 1, 2, none⟩ = some (.int .i64 0) := by rw [← hWn]; exact (cellC (cellC rp2_V1 nxrp) nxrp)
      have rp3_V2 : V2.cell? ⟨w.heap.size + 1 + 1 + 1, 3, none⟩ = some (.int .i64 0) := by rw [← hWn]; exact (cellC (cellC rp3_V1 nxrp) nxrp)
      have rpF_V2 : ∀ o, V2.frozen? ⟨w.heap.size + 1 + 1 + 1, o, none⟩ = false := fun o => by rw [← hWn]; exact (frzC (frzC (rpF_V1 o)))
      have rpL_V2 : w.heap.size + 1 + 1 + 1 < V2.heap.size := by rw [← hWn]; simpa using rpL_V1
      have ot0_V2 : V2.cell? ⟨w5.heap.size, 0, none⟩ = some (.slice a5 np c5) := by rw [← hWn]; exact (cellC (cellC ot0_V1 nxot) nxot)
      have ot1_V2 : V2.cell? ⟨w5.heap.size, 1, none⟩ = some (.slice b5 nb d5) := by rw [← hWn]; exact (cellC (cellC ot1_V1 nxot) nxot)
      have otF_V2 : ∀ o, V2.frozen? ⟨w5.heap.size, o, none⟩ = false := fun o => by rw [← hWn]; exact (frzC (frzC (otF_V1 o)))
      have otL_V2 : w5.heap.size < V2.heap.size := by rw [← hWn]; simpa using otL_V1
      have no0_V2 : V2.cell? ⟨w5.heap.size + 1, 0, none⟩ = some (.bool false) := by rw [← hWn]; exact (cellC (cellC no0_V1 nxno) nxno)
      have no1_V2 : V2.cell? ⟨w5.heap.size + 1, 1, none⟩ = some (.int .i64 0) := by rw [← hWn]; exact (cellC (cellC no1_V1 nxno) nxno)
      have no2_V2 : V2.cell? ⟨w5.heap.size + 1, 2, none⟩ = some (.int .i64 0) := by rw [← hWn]; exact (cellC (cellC no2_V1 nxno) nxno)
      have no3_V2 : V2.cell? ⟨w5.heap.size + 1, 3, none⟩ = some (.int .i64 0) := by rw [← hWn]; exact (cellC (cellC no3_V1 nxno) nxno)
      have noF_V2 : ∀ o, V2.frozen? ⟨w5.heap.size + 1, o, none⟩ = false := fun o => by rw [← hWn]; exact (frzC (frzC (noF_V1 o)))
      have noL_V2 : w5.heap.size + 1 < V2.heap.size := by rw [← hWn]; simpa using noL_V1
      have oP_V2 : Hid (OwnG KPl 46 V2 (W4.heap.size) (.slice a5 np c5) (ps)) := hidP (by rw [← hWn]; exact (OwnG.grown (OwnG.grown oP_V1.out (grown_cellG _ _ _ _) ryP) (grown_cellG _ _ _ _) ryP))
      have oQ_V2 : Hid (OwnG KBk 38 V2 (W4.heap.size) (.slice b5 nb d5) (bs)) := hidP (by rw [← hWn]; exact (OwnG.grown (OwnG.grown oQ_V1.out (grown_cellG _ _ _ _) ryQ) (grown_cellG _ _ _ _) ryQ))
      have acc_V2 : Hid (Below w.heap.size w V2) := hidP (by rw [← hWn]; exact (Below.setCell (Below.setCell acc_V1.out lw _) lw _))
      have sz_V2 : Hid (V2.heap.size = V1.heap.size) := hidP (by rw [← hWn]; simp)
      clear hWn nxrp nxot nxno ryP ryQ lw rs0_V1 rs1_V1 rsF_V1 rsL_V1 rp0_V1 rp1_V1 rp2_V1 rp3_V1 rpF_V1 rpL_V1 ot0_V1 ot1_V1 otF_V1 otL_V1 no0_V1 no1_V1 no2_V1 no3_V1 noF_V1 noL_V1 oP_V1 oQ_V1 acc_V1
      refine wpAnyH_ready (rs := [3]) (by kernel_rfl) (by simp) ?_
      refine AllReadyH.cons rfl (fun K hK => ?_) AllReadyH.nil
      go_simp
      have nxrs : w.heap.size + 1 + 1 ≠ w.heap.size + 1 + 1 + 1 := (by have := HOR2.out; have := sz_w10.out; have := sz_wc.out; have := HPX.out; have := sz_V1.out; have := sz_V2.out; omega)
      have nxot : w5.heap.size ≠ w.heap.size + 1 + 1 + 1 := (by have := HOR2.out; have := sz_w10.out; have := sz_wc.out; have := HPX.out; have := sz_V1.out; have := sz_V2.out; omega)
      have nxno : w5.heap.size + 1 ≠ w.heap.size + 1 + 1 + 1 := (by have := HOR2.out; have := sz_w10.out; have := sz_wc.out; have := HPX.out; have := sz_V1.out; have := sz_V2.out; omega)
      refine hK.out _ _ ?_ (fun hHeld => ?_)
      · try dsimp only
        exact ⟨(cellC (cellC (cellC (cellC ot0_V2 nxot) nxot) nxot) nxot), (cellC (cellC (cellC (cellC ot1_V2 nxot) nxot) nxot) nxot), (cellC (cellC (cellC (cellC no0_V2 nxno) nxno) nxno) nxno), (cellC (cellC (cellC (cellC no1_V2 nxno) nxno) nxno) nxno), (cellC (cellC (cellC (cellC no2_V2 nxno) nxno) nxno) nxno), (cellC (cellC (cellC (cellC no3_V2 nxno) nxno) nxno) nxno)⟩
      clear hK K
      clear nxot nxno
      clear ot0_V2 ot1_V2 otF_V2 otL_V2
      clear no0_V2 no1_V2 no2_V2 no3_V2 noF_V2 noL_V2
      have ryP : ∀ k, (Value.slice a5 np c5).ownBlock = some k → some (w.heap.size + 1 + 1 + 1) ≠ some k := (fun k hk e => by have h5 := lhP.out k hk; have h6 := Option.some.inj e; have := HOR2.out; have := sz_w10.out; have := sz_wc.out; have := HPX.out; have := sz_V1.out; have := sz_V2.out; omega)
      have ryQ : ∀ k, (Value.slice b5 nb d5).ownBlock = some k → some (w.heap.size + 1 + 1 + 1) ≠ some k := (fun k hk e => by have h5 := lhQ.out k hk; have h6 := Option.some.inj e; have := HOR2.out; have := sz_w10.out; have := sz_wc.out; have := HPX.out; have := sz_V1.out; have := sz_V2.out; omega)
      have lw : w.heap.size ≤ w.heap.size + 1 + 1 + 1 := (by have := HOR2.out; have := sz_w10.out; have := sz_wc.out; have := HPX.out; have := sz_V1.out; have := sz_V2.out; omega)
      generalize hWn : (((V2.setCell ⟨w.heap.size + 1 + 1 + 1, 0, none⟩ (.bool false)).setCell ⟨w.heap.size + 1 + 1 + 1, 1, none⟩ (.int .i64 0)).setCell ⟨w.heap.size + 1 + 1 + 1, 2, none⟩ (.int .i64 0)).setCell ⟨w.heap.size + 1 + 1 + 1, 3, none⟩ (.int .i64 0) = V3 at *
      have rp0_V3 : V3.cell? ⟨w.heap.size + 1 + 1 + 1, 0, none⟩ = some (.bool false) := by rw [← hWn]; simp [go_sem, rp0_V2]
      have rp1_V3 : V3.cell? ⟨w.heap.size + 1 + 1 + 1, 1, none⟩ = some (.int .i64 0) := by rw [← hWn]; simp [go_sem, rp1_V2]
      have rp2_V3 : V3.cell? ⟨w.heap.size + 1 + 1 + 1, 2, none⟩ = some (.int .i64 0) := by rw [← hWn]; simp [go_sem, rp2_V2]
      have rp3_V3 : V3.cell? ⟨w.heap.size + 1 + 1 + 1, 3, none⟩ = some (.int .i64 0) := by rw [← hWn]; simp [go_sem, rp3_V2]
      have rs0_V3 : V3.cell? ⟨w.heap.size + 1 + 1, 0, none⟩ = some (.slice a5 np c5) := by rw [← hWn]; exact (cellC (cellC (cellC (cellC rs0_V2 nxrs) nxrs) nxrs) nxrs)
      have rs1_V3 : V3.cell? ⟨w.heap.size + 1 + 1, 1, none⟩ = some (.slice b5 nb d5) := by rw [← hWn]; exact (cellC (cellC (cellC (cellC rs1_V2 nxrs) nxrs) nxrs) nxrs)
      have rsF_V3 : ∀ o, V3.frozen? ⟨w.heap.size + 1 + 1, o, none⟩ = false := fun o => by rw [← hWn]; exact (frzC (frzC (frzC (frzC (rsF_V2 o)))))
      have rsL_V3 : w.heap.size + 1 + 1 < V3.heap.size := by rw [← hWn]; simpa using rsL_V2
      have rpF_V3 : ∀ o, V3.frozen? ⟨w.heap.size + 1 + 1 + 1, o, none⟩ = false := fun o => by rw [← hWn]; exact (frzC (frzC (frzC (frzC (rpF_V2 o)))))
      have rpL_V3 : w.heap.size + 1 + 1 + 1 < V3.heap.size := by rw [← hWn]; simpa using rpL_V2
      have oP_V3 : Hid (OwnG KPl 46 V3 (W4.heap.size) (.slice a5 np c5) (ps)) := hidP (by rw [← hWn]; exact (OwnG.grown (OwnG.grown (OwnG.grown (OwnG.grown oP_V2.out (grown_cellG _ _ _ _) ryP) (grown_cellG _ _ _ _) ryP) (grown_cellG _ _ _ _) ryP) (grown_cellG _ _ _ _) ryP))
      have oQ_V3 : Hid (OwnG KBk 38 V3 (W4.heap.size) (.slice b5 nb d5) (bs)) := hidP (by rw [← hWn]; exact (OwnG.grown (OwnG.grown (OwnG.grown (OwnG.grown oQ_V2.out (grown_cellG _ _ _ _) ryQ) (grown_cellG _ _ _ _) ryQ) (grown_cellG _ _ _ _) ryQ) (grown_cellG _ _ _ _) ryQ))
      have acc_V3 : Hid (Below w.heap.size w V3) := hidP (by rw [← hWn]; exact (Below.setCell (Below.setCell (Below.setCell (Below.setCell acc_V2.out lw _) lw _) lw _) lw _))
      have sz_V3 : Hid (V3.heap.size = V2.heap.size) := hidP (by rw [← hWn]; simp)
      clear hWn nxrs ryP ryQ lw rp0_V2 rp1_V2 rp2_V2 rp3_V2 rs0_V2 rs1_V2 rsF_V2 rsL_V2 rpF_V2 rpL_V2 oP_V2 oQ_V2 acc_V2
      refine tk 4 8 rfl ?_
      simp only [pa]
      refine wpAnyH_done (by kernel_rfl) ?_ _
      clear hHeld
      go_wp2_with fail
      have eO := HO.out.trans (cv6 H1.out H2.out H3.out (by have := H4.out; omega) H5.out)
      subst eO
      refine bodyPost_ret (v := .tuple #[.agg #[.slice a5 np c5, .slice b5 nb d5], .agg #[.bool false, .int .i64 0, .int .i64 0, .int .i64 0], .int .i64 5]) (by simp [results, Tryz.results9, go_sem, rs0_V3, rs1_V3, rp0_V3, rp1_V3, rp2_V3, rp3_V3]) rfl ⟨_, _, _, _, _, rfl, ?_, ?_, ?_, ?_, ?_⟩
      · exact HN.out.2
      · have hB : w.heap.size + 1 + 1 + 1 < W4.heap.size ∧ w.heap.size ≤ W4.heap.size := (by have := HOR2.out; have := sz_w10.out; have := sz_wc.out; have := HPX.out; have := sz_V1.out; have := sz_V2.out; have := sz_V3.out; omega)
        refine OwnG.mono (B := W4.heap.size) ?_ hB.2
        repeat (first | (with_reducible refine OwnG.drewC ?_) | (with_reducible refine OwnG.grown ?_ (grown_cellG _ _ _ _) ?_; rotate_left; (focus (exact OwnG.ne_ofC oP_V3.out (by omega)))))
        with_reducible exact oP_V3.out
      · have hB : w.heap.size + 1 + 1 + 1 < W4.heap.size ∧ w.heap.size ≤ W4.heap.size := (by have := HOR2.out; have := sz_w10.out; have := sz_wc.out; have := HPX.out; have := sz_V1.out; have := sz_V2.out; have := sz_V3.out; omega)
        refine OwnG.mono (B := W4.heap.size) ?_ hB.2
        repeat (first | (with_reducible refine OwnG.drewC ?_) | (with_reducible refine OwnG.grown ?_ (grown_cellG _ _ _ _) ?_; rotate_left; (focus (exact OwnG.ne_ofC oQ_V3.out (by omega)))))
        with_reducible exact oQ_V3.out
      · exact ne5.out
      · repeat (first | (with_reducible refine Below.drew ?_) | (with_reducible refine Below.setCell ?_ ?_ _; rotate_left; (focus (first | (simp; done) | (simp; omega) | (dsimp only; have := HOR2.out; have := sz_w10.out; have := sz_wc.out; have := HPX.out; have := sz_V1.out; have := sz_V2.out; have := sz_V3.out; omega)))))
        exact acc_V3.out
    obtain ⟨z, r, hz, hF⟩ : ∃ z r, zs = z :: r ∧ F = ⟨z.s, z.H, z.L, bits⟩ := by rcases HC.out with ⟨h, _⟩ | ⟨_, h⟩; cases h; exact h
    obtain ⟨kF, wF, oF⟩ := HFz.out z r hz
    have eO := HO.out.trans (show cvO ps bs pt ow bits zs = ⟨insB ⟨F, ow⟩ bs, F, 0⟩ by rw [hz, hF]; exact cv7 H1.out H2.out H3.out (by have := H4.out; omega) H5.out)
    rw [← hF] at kF wF oF
    have hnw := fil_new wF oF
    have HCm := hidP (fun (q : Bk) (hq : q ∈ bs) => sCmpP q.p F (HAS.out.1 q hq) kF)
    have HNw := hidP hnw
    have HEO := hidP eO
    clear hnw eO kF wF oF hz hF
    clear noP_wc
    have ot0_wc := otP_wc.out.1 0 _ rfl
    have ot1_wc := otP_wc.out.1 1 _ rfl
    have otF_wc := otP_wc.out.2.1
    have otL_wc := otP_wc.out.2.2
    clear otP_wc
    have one : OwnG KBk 38 (wc.alloc (.cells #[.bool false, .int .i64 0, .int .i64 0, .int .i64 0, .string ⟨#[]⟩] 38)) 0 (.slice (some ⟨wc.heap.size, 0, none⟩) 1 1) [zBk] := own_oneG KBk wc 0 _ zBk (Nat.zero_le _)
    have HON := hidP one
    clear one
    go_wp2_with (at_builtin; refine stpC ?_)
    unfold StpC
    have hba := alloc_below wc (.cells #[.bool false, .int .i64 0, .int .i64 0, .int .i64 0, .string ⟨#[]⟩] 38)
    have as_X : Hid ((wc.alloc (.cells #[.bool false, .int .i64 0, .int .i64 0, .int .i64 0, .string ⟨#[]⟩] 38)).heap.size = wc.heap.size + 1) := hidP (by simp)
    generalize (wc.alloc (.cells #[.bool false, .int .i64 0, .int .i64 0, .int .i64 0, .string ⟨#[]⟩] 38)) = X at *
    have rsP_X := hidP (rsP_wc.out.later hba)
    have rpP_X := hidP (rpP_wc.out.later hba)
    clear rsP_wc rpP_wc
    have fb0_X := (hba.cell fbL_wc).trans fb0_wc
    have fb1_X := (hba.cell fbL_wc).trans fb1_wc
    have fb2_X := (hba.cell fbL_wc).trans fb2_wc
    have fb3_X := (hba.cell fbL_wc).trans fb3_wc
    have fbF_X : ∀ o, X.frozen? ⟨pX, o, none⟩ = false := fun o => (hba.frozen fbL_wc).trans (fbF_wc o)
    have fbL_X : pX < X.heap.size := Nat.lt_of_lt_of_le fbL_wc hba.size
    have ot0_X := (hba.cell otL_wc).trans ot0_wc
    have ot1_X := (hba.cell otL_wc).trans ot1_wc
    have otF_X : ∀ o, X.frozen? ⟨w5.heap.size, o, none⟩ = false := fun o => (hba.frozen otL_wc).trans (otF_wc o)
    have otL_X : w5.heap.size < X.heap.size := Nat.lt_of_lt_of_le otL_wc hba.size
    have oP_X := hidP (OwnG.later oP_wc.out hba)
    have oQ_X := hidP (OwnG.later oQ_wc.out hba)
    have acc_X := hidP (acc_wc.out.trans (hba.mono acc_wc.out.size))
    have sz_X : Hid (wc.heap.size ≤ X.heap.size) := hidP hba.size
    clear hba fb0_wc fb1_wc fb2_wc fb3_wc fbF_wc fbL_wc ot0_wc ot1_wc otF_wc otL_wc oP_wc oQ_wc acc_wc
    refine wpList_appG Tryz.tyBk _ rfl (.tmp 68) (.tmp 70) 25 rfl W4.heap.size b5 nb d5 1 bs [zBk] (.slice (some ⟨wc.heap.size, 0, none⟩) 1 1) rfl HN.out.2 rfl oQ_X.out rfl (src_rowG Tryz.tyBk.1 1 1 (by show 0 < 5; omega) rfl HON.out.row (fun h => by cases h)) (by omega) (by have := HOR2.out; have := sz_w10.out; have := sz_wc.out; have := HPX.out; have := sz_X.out; have := as_X.out; omega) ?_
    intro a9 c9 w9 ho9 hg9 ht9
    obtain ⟨gg, rfl⟩ : ∃ gg, a9 = some ⟨gg, 0, none⟩ := by
      rcases ho9.2 with ⟨hv, _⟩ | ⟨gg, cap', cur, hv, _⟩
      · simp at hv
      · simp at hv; exact ⟨gg, hv.1⟩
    have HGG : Hid ((W4.heap.size ≤ gg ∧ gg < w5.heap.size ∧ (Value.slice b5 nb d5).ownBlock = some gg) ∨ gg = X.heap.size) := hidP (by rcases ht9 with h | h; exact Or.inl ⟨(lhQ.out gg (by rw [← h]; rfl)).1, (lhQ.out gg (by rw [← h]; rfl)).2, by rw [← h]; rfl⟩; simp at h; exact Or.inr h)
    have OQ9 := hidP ho9
    have HPQ : Hid (∀ k, (Value.slice a5 np c5).ownBlock = some k → k ≠ gg) := hidP (fun k hk e => by rcases HGG.out with h | h; exact ne5.out k hk (by rw [h.2.2, e]); have := lhP.out k hk; have := HOR2.out; have := sz_w10.out; have := sz_wc.out; have := HPX.out; have := sz_X.out; have := as_X.out; omega)
    have gefb := hg9.block (pX) fbL_X (fun e => by have hl := lhQ.out _ e.symm; have := HOR2.out; have := sz_w10.out; have := sz_wc.out; have := HPX.out; have := sz_X.out; have := as_X.out; have := fbL_X; omega)
    have fb0_w9 := (World.cell?_of_block gefb).trans fb0_X
    have fb1_w9 := (World.cell?_of_block gefb).trans fb1_X
    have fb2_w9 := (World.cell?_of_block gefb).trans fb2_X
    have fb3_w9 := (World.cell?_of_block gefb).trans fb3_X
    have fbF_w9 : ∀ o, w9.frozen? ⟨pX, o, none⟩ = false := fun o => (World.frozen?_of_block gefb).trans (fbF_X o)
    have fbL_w9 : pX < w9.heap.size := Nat.lt_of_lt_of_le fbL_X hg9.size
    have geot := hg9.block (w5.heap.size) otL_X (fun e => by have hl := lhQ.out _ e.symm; have := HOR2.out; have := sz_w10.out; have := sz_wc.out; have := HPX.out; have := sz_X.out; have := as_X.out; omega)
    have ot0_w9 := (World.cell?_of_block geot).trans ot0_X
    have ot1_w9 := (World.cell?_of_block geot).trans ot1_X
    have otF_w9 : ∀ o, w9.frozen? ⟨w5.heap.size, o, none⟩ = false := fun o => (World.frozen?_of_block geot).trans (otF_X o)
    have otL_w9 : w5.heap.size < w9.heap.size := Nat.lt_of_lt_of_le otL_X hg9.size
    have rsP_w9 := hidP (rsP_X.out.blk hg9 (fun e => by have hl := lhQ.out _ e.symm; have := HOR2.out; have := sz_w10.out; have := sz_wc.out; have := HPX.out; have := sz_X.out; have := as_X.out; omega))
    have rpP_w9 := hidP (rpP_X.out.blk hg9 (fun e => by have hl := lhQ.out _ e.symm; have := HOR2.out; have := sz_w10.out; have := sz_wc.out; have := HPX.out; have := sz_X.out; have := as_X.out; omega))
    have oP_w9 := hidP (OwnG.grown oP_X.out hg9 (fun k hk e => by exact ne5.out k hk e))
    have sz_w9 : Hid (X.heap.size ≤ w9.heap.size) := hidP hg9.size
    have acc_w9 := hidP (acc_X.out.grown hg9 acc_X.out.size (fun j e => by have hl := lhQ.out j e; have := HOR2.out; have := sz_w10.out; have := sz_wc.out; have := HPX.out; have := sz_X.out; have := as_X.out; have := sz_w9.out; omega))
    have HFX : Hid (pX < X.heap.size) := hidP fbL_X
    clear hg9 ht9 ho9 oQ_X acc_X fb0_X fb1_X fb2_X fb3_X fbF_X fbL_X gefb ot0_X ot1_X otF_X otL_X geot rsP_X rpP_X oP_X
    go_wp2_with fail
    have oY_w9 := hidP OQ9.out
    clear OQ9
    have lhY : Hid (∀ k, (Value.slice (some ⟨gg, 0, none⟩) (nb + 1) c9).ownBlock = some k → k = gg) := hidP (fun k hk => by simpa [Value.ownBlock] using hk.symm)
    have nxfb : pX ≠ w5.heap.size := (by have := HOR2.out; have := sz_w10.out; have := sz_wc.out; have := HPX.out; have := sz_X.out; have := as_X.out; have := sz_w9.out; have := HFX.out; omega)
    have ryP : ∀ k, (Value.slice a5 np c5).ownBlock = some k → some (w5.heap.size) ≠ some k := (fun k hk e => by have h5 := lhP.out k hk; have h6 := Option.some.inj e; have := HOR2.out; have := sz_w10.out; have := sz_wc.out; have := HPX.out; have := sz_X.out; have := as_X.out; have := sz_w9.out; have := HFX.out; omega)
    have ryY : ∀ k, (Value.slice (some ⟨gg, 0, none⟩) (nb + 1) c9).ownBlock = some k → some (w5.heap.size) ≠ some k := (fun k hk e => by have h5 := lhY.out k hk; have h6 := Option.some.inj e; have h7 := HGG.out; have := HOR2.out; have := sz_w10.out; have := sz_wc.out; have := HPX.out; have := sz_X.out; have := as_X.out; have := sz_w9.out; have := HFX.out; omega)
    have lw : w.heap.size ≤ w5.heap.size := (by have := HOR2.out; have := sz_w10.out; have := sz_wc.out; have := HPX.out; have := sz_X.out; have := as_X.out; have := sz_w9.out; have := HFX.out; omega)
    have nxrs : w.heap.size + 1 + 1 ≠ w5.heap.size := (by have := HOR2.out; have := sz_w10.out; have := sz_wc.out; have := HPX.out; have := sz_X.out; have := as_X.out; have := sz_w9.out; have := HFX.out; omega)
    have nxrp : w.heap.size + 1 + 1 + 1 ≠ w5.heap.size := (by have := HOR2.out; have := sz_w10.out; have := sz_wc.out; have := HPX.out; have := sz_X.out; have := as_X.out; have := sz_w9.out; have := HFX.out; omega)
    generalize hWn : w9.setCell ⟨w5.heap.size, 1, none⟩ (.slice (some ⟨gg, 0, none⟩) (nb + 1) c9) = V at *
    have ot0_V : V.cell? ⟨w5.heap.size, 0, none⟩ = some (.slice a5 np c5) := by rw [← hWn]; simp [go_sem, ot0_w9]
    have ot1_V : V.cell? ⟨w5.heap.size, 1, none⟩ = some (.slice (some ⟨gg, 0, none⟩) (nb + 1) c9) := by rw [← hWn]; simp [go_sem, ot1_w9]
    have fb0_V : V.cell? ⟨pX, 0, none⟩ = some (.bool F.s) := by rw [← hWn]; exact (cellC fb0_w9 nxfb)
    have fb1_V : V.cell? ⟨pX, 1, none⟩ = some (.int .i64 F.H.toInt) := by rw [← hWn]; exact (cellC fb1_w9 nxfb)
    have fb2_V : V.cell? ⟨pX, 2, none⟩ = some (.int .i64 F.L.toInt) := by rw [← hWn]; exact (cellC fb2_w9 nxfb)
    have fb3_V : V.cell? ⟨pX, 3, none⟩ = some (.int .i64 F.b) := by rw [← hWn]; exact (cellC fb3_w9 nxfb)
    have fbF_V : ∀ o, V.frozen? ⟨pX, o, none⟩ = false := fun o => by rw [← hWn]; exact (frzC (fbF_w9 o))
    have fbL_V : pX < V.heap.size := by rw [← hWn]; simpa using fbL_w9
    have otF_V : ∀ o, V.frozen? ⟨w5.heap.size, o, none⟩ = false := fun o => by rw [← hWn]; exact (frzC (otF_w9 o))
    have otL_V : w5.heap.size < V.heap.size := by rw [← hWn]; simpa using otL_w9
    have rsP_V : Hid (BxK V (w.heap.size + 1 + 1) [.slice none 0 0, .slice none 0 0]) := hidP (by rw [← hWn]; exact (rsP_w9.out.set nxrs))
    have rpP_V : Hid (BxK V (w.heap.size + 1 + 1 + 1) [.bool false, .int .i64 0, .int .i64 0, .int .i64 0]) := hidP (by rw [← hWn]; exact (rpP_w9.out.set nxrp))
    have oP_V : Hid (OwnG KPl 46 V (W4.heap.size) (.slice a5 np c5) (ps)) := hidP (by rw [← hWn]; exact (OwnG.grown oP_w9.out (grown_cellG _ _ _ _) ryP))
    have oY_V : Hid (OwnG KBk 38 V (W4.heap.size) (.slice (some ⟨gg, 0, none⟩) (nb + 1) c9) (bs ++ [zBk])) := hidP (by rw [← hWn]; exact (OwnG.grown oY_w9.out (grown_cellG _ _ _ _) ryY))
    have acc_V : Hid (Below w.heap.size w V) := hidP (by rw [← hWn]; exact (Below.setCell acc_w9.out lw _))
    have sz_V : Hid (V.heap.size = w9.heap.size) := hidP (by rw [← hWn]; simp)
    clear hWn nxfb ryP ryY lw ot0_w9 ot1_w9 fb0_w9 fb1_w9 fb2_w9 fb3_w9 fbF_w9 fbL_w9 otF_w9 otL_w9 nxrs rsP_w9 nxrp rpP_w9 oP_w9 oY_w9 acc_w9
    go_loopw [14] (fun t14 wr => ∃ (i : Nat) (x : Bk), i ≤ nb ∧ t14 = .int .i64 i ∧ OwnG KBk 38 wr W4.heap.size (.slice (some ⟨gg, 0, none⟩) (nb + 1) c9) (bs.take i ++ x :: bs.drop i) ∧ V.grownBy wr (some gg) ∧ (∀ (j : Nat) (r : Bk), i ≤ j → bs[j]? = some r → 0 < cmpP r.p F)) (fun t14 _ => (intOf t14).toNat)
    case atStart => exact ⟨nb, zBk, Nat.le_refl _, rfl, by rw [List.take_of_length_le (by have := HN.out.2; omega), List.drop_of_length_le (by have := HN.out.2; omega)]; exact oY_V.out, World.grownBy.refl _ _, (fun j r hj hr => by have := (List.getElem?_eq_some_iff.1 hr).1; have := HN.out.2; omega)⟩
    case round =>
      obtain ⟨i, x, hin, rfl, hown, hgr, hup⟩ := hrel
      have HUp := hidP hup
      have OWN := hidP hown
      have HGR := hidP hgr
      have gefb := hgr.block (pX) fbL_V (fun e => by have h6 := Option.some.inj e; have h7 := HGG.out; have := HOR2.out; have := sz_w10.out; have := sz_wc.out; have := HPX.out; have := sz_X.out; have := as_X.out; have := sz_w9.out; have := HFX.out; have := sz_V.out; omega)
      have fb0_wr := (World.cell?_of_block gefb).trans fb0_V
      have fb1_wr := (World.cell?_of_block gefb).trans fb1_V
      have fb2_wr := (World.cell?_of_block gefb).trans fb2_V
      have fb3_wr := (World.cell?_of_block gefb).trans fb3_V
      have fbF_wr : ∀ o, wr.frozen? ⟨pX, o, none⟩ = false := fun o => (World.frozen?_of_block gefb).trans (fbF_V o)
      have fbL_wr : pX < wr.heap.size := Nat.lt_of_lt_of_le fbL_V hgr.size
      have geot := hgr.block (w5.heap.size) otL_V (fun e => by have h6 := Option.some.inj e; have h7 := HGG.out; have := HOR2.out; have := sz_w10.out; have := sz_wc.out; have := HPX.out; have := sz_X.out; have := as_X.out; have := sz_w9.out; have := HFX.out; have := sz_V.out; omega)
      have ot0_wr := (World.cell?_of_block geot).trans ot0_V
      have ot1_wr := (World.cell?_of_block geot).trans ot1_V
      have otF_wr : ∀ o, wr.frozen? ⟨w5.heap.size, o, none⟩ = false := fun o => (World.frozen?_of_block geot).trans (otF_V o)
      have otL_wr : w5.heap.size < wr.heap.size := Nat.lt_of_lt_of_le otL_V hgr.size
      have rsP_wr := hidP (rsP_V.out.blk hgr (fun e => by have h6 := Option.some.inj e; have h7 := HGG.out; have := HOR2.out; have := sz_w10.out; have := sz_wc.out; have := HPX.out; have := sz_X.out; have := as_X.out; have := sz_w9.out; have := HFX.out; have := sz_V.out; omega))
      have rpP_wr := hidP (rpP_V.out.blk hgr (fun e => by have h6 := Option.some.inj e; have h7 := HGG.out; have := HOR2.out; have := sz_w10.out; have := sz_wc.out; have := HPX.out; have := sz_X.out; have := as_X.out; have := sz_w9.out; have := HFX.out; have := sz_V.out; omega))
      have oP_wr := hidP (OwnG.grown oP_V.out hgr (fun k hk e => by exact HPQ.out k hk (Option.some.inj e).symm))
      have sz_wr : Hid (V.heap.size ≤ wr.heap.size) := hidP hgr.size
      have acc_wr := hidP (acc_V.out.grown hgr acc_V.out.size (fun j e => by have h6 := Option.some.inj e; have h7 := HGG.out; have := HOR2.out; have := sz_w10.out; have := sz_wc.out; have := HPX.out; have := sz_X.out; have := as_X.out; have := sz_w9.out; have := HFX.out; have := sz_V.out; have := sz_wr.out; omega))
      have HLn : Hid ((bs.take i ++ x :: bs.drop i).length = nb + 1) := hidP (by rw [len_mid bs x i (by have := HN.out.2; omega)]; have := HN.out.2; omega)
      clear hup hown hgr acc_V oY_V fb0_V fb1_V fb2_V fb3_V fbF_V fbL_V gefb ot0_V ot1_V otF_V otL_V geot rsP_V rpP_V oP_V
      by_cases hi0 : i = 0
      · have gz : decide ((i : Int) > 0) = false := decide_eq_false (by omega)
        have gz2 : decide ((0 : Int) < (i : Int)) = false := decide_eq_false (by omega)
        have gz3 : ¬ ((0 : Int) < (i : Int)) := by omega
        have gz4 : decide (0 < i) = false := decide_eq_false (by omega)
        have gz5 : ¬ (0 < i) := by omega
        have HI0 := hidP hi0
        clear hi0
        go_wp2_with fail
        have HSx : Hid (∀ x, Below wr.heap.size wr x → (x.cell? ⟨w5.heap.size, 0, none⟩ = some (.slice a5 np c5) ∧ x.cell? ⟨w5.heap.size, 1, none⟩ = some (.slice (some ⟨gg, 0, none⟩) (nb + 1) c9) ∧ Below wr.heap.size wr x)) := hidP fun x h =>
          ⟨(h.cell otL_wr).trans ot0_wr, (h.cell otL_wr).trans ot1_wr, h⟩
        refine wp_region_held_drew (S := (fun x => x.cell? ⟨w5.heap.size, 0, none⟩ = some (.slice a5 np c5) ∧ x.cell? ⟨w5.heap.size, 1, none⟩ = some (.slice (some ⟨gg, 0, none⟩) (nb + 1) c9) ∧ Below wr.heap.size wr x)) (by kernel_rfl) ?_ (fun hHeld => ?_)
        · try dsimp only
          exact HSx.out _ ((Below.refl _ _).drew)
        refine tk 0 73 rfl ?_
        simp only [pa]
        refine tk 1 74 rfl ?_
        simp only [pa]
        refine tk 2 75 rfl ?_
        simp only [pa]
        refine sk 3 76 rfl ?_
        simp only [pa]
        refine sk 4 77 rfl ?_
        simp only [pa]
        refine sk 5 78 rfl ?_
        simp only [pa]
        refine sk 6 79 rfl ?_
        simp only [pa]
        refine sk 7 80 rfl ?_
        simp only [pa]
        refine sk 8 81 rfl ?_
        simp only [pa]
        refine sk 9 82 rfl ?_
        simp only [pa]
        refine sk 10 83 rfl ?_
        simp only [pa]
        refine sk 11 84 rfl ?_
        simp only [pa]
        refine sk 12 85 rfl ?_
        simp only [pa]
        refine tk 13 86 rfl ?_
        simp only [pa]
        have HE := hidP (hHeld.2.2)
        refine wpAnyH_done (by kernel_rfl) ?_ _
        clear hHeld
        have hbd := HE.out
        clear HE HSx
        generalize wr.drew = wd at *
        have OWW := hidP (OwnG.later OWN.out hbd)
        have rsP_wd := hidP (rsP_wr.out.later hbd)
        have rpP_wd := hidP (rpP_wr.out.later hbd)
        clear rsP_wr rpP_wr
        have fb0_wd := (hbd.cell fbL_wr).trans fb0_wr
        have fb1_wd := (hbd.cell fbL_wr).trans fb1_wr
        have fb2_wd := (hbd.cell fbL_wr).trans fb2_wr
        have fb3_wd := (hbd.cell fbL_wr).trans fb3_wr
        have fbF_wd : ∀ o, wd.frozen? ⟨pX, o, none⟩ = false := fun o => (hbd.frozen fbL_wr).trans (fbF_wr o)
        have fbL_wd : pX < wd.heap.size := Nat.lt_of_lt_of_le fbL_wr hbd.size
        have ot0_wd := (hbd.cell otL_wr).trans ot0_wr
        have ot1_wd := (hbd.cell otL_wr).trans ot1_wr
        have otF_wd : ∀ o, wd.frozen? ⟨w5.heap.size, o, none⟩ = false := fun o => (hbd.frozen otL_wr).trans (otF_wr o)
        have otL_wd : w5.heap.size < wd.heap.size := Nat.lt_of_lt_of_le otL_wr hbd.size
        have oP_wd := hidP (OwnG.later oP_wr.out hbd)
        have acc_wd := hidP (acc_wr.out.trans (hbd.mono acc_wr.out.size))
        have sz_wd : Hid (wr.heap.size ≤ wd.heap.size) := hidP hbd.size
        clear hbd fb0_wr fb1_wr fb2_wr fb3_wr fbF_wr fbL_wr ot0_wr ot1_wr otF_wr otL_wr oP_wr acc_wr
        have HOR3 := hidP (And.intro HOR2.out (And.intro sz_w10.out (And.intro sz_wc.out (And.intro HPX.out (And.intro sz_X.out (And.intro as_X.out (And.intro sz_w9.out (And.intro HFX.out (And.intro sz_V.out (And.intro sz_wr.out sz_wd.out))))))))))
        clear HOR2 sz_w10 sz_wc sz_X sz_w9 sz_V sz_wr sz_wd
        obtain ⟨qx, hgL, hqx, x0, x1, x2, x3, x4⟩ := rowBk0 OWW.out i (by have := HLn.out; omega)
        obtain ⟨f0, f1, f2, f3, f4⟩ := frzBk OWW.out i
        have hput := putBk OWW.out HLn.out.symm i (by omega) ⟨F, ow⟩
        rw [new_set bs x ⟨F, ow⟩ i (by have := HN.out.2; omega), ins_at ⟨F, ow⟩ bs i HAS.out.2 (by have := HN.out.2; omega) (fun j r hj hr => by have := HUp.out j r hj hr; show ¬ cmpP r.p F < 0; omega) (fun j r hj hr => by have := HI0.out; omega)] at hput
        have i0 : (0 : Int) ≤ (i : Int) := by omega
        have i1 : (i : Int) < (nb : Int) + 1 := by omega
        have i2 : i < nb + 1 := by omega
        have HPu := hidP hput
        clear hput hqx hgL
        go_wp2_with fail
        have hg5 : wd.grownBy (((((wd.setCell ⟨gg, i * 5, none⟩ (.bool F.s)).setCell ⟨gg, i * 5 + 1, none⟩ (.int .i64 F.H.toInt)).setCell ⟨gg, i * 5 + 2, none⟩ (.int .i64 F.L.toInt)).setCell ⟨gg, i * 5 + 3, none⟩ (.int .i64 F.b)).setCell ⟨gg, i * 5 + 4, none⟩ (.string ow)) (some gg) := grown_five'
        have oY_W5 : Hid (OwnG KBk 38 (((((wd.setCell ⟨gg, i * 5, none⟩ (.bool F.s)).setCell ⟨gg, i * 5 + 1, none⟩ (.int .i64 F.H.toInt)).setCell ⟨gg, i * 5 + 2, none⟩ (.int .i64 F.L.toInt)).setCell ⟨gg, i * 5 + 3, none⟩ (.int .i64 F.b)).setCell ⟨gg, i * 5 + 4, none⟩ (.string ow)) W4.heap.size (.slice (some ⟨gg, 0, none⟩) (nb + 1) c9) (insB ⟨F, ow⟩ bs)) := HPu
        clear x0 x1 x2 x3 x4 f0 f1 f2 f3 f4 HPu
        generalize ((((wd.setCell ⟨gg, i * 5, none⟩ (.bool F.s)).setCell ⟨gg, i * 5 + 1, none⟩ (.int .i64 F.H.toInt)).setCell ⟨gg, i * 5 + 2, none⟩ (.int .i64 F.L.toInt)).setCell ⟨gg, i * 5 + 3, none⟩ (.int .i64 F.b)).setCell ⟨gg, i * 5 + 4, none⟩ (.string ow) = W5 at *
        have gefb := hg5.block (pX) fbL_wd (fun e => by have h6 := Option.some.inj e; have h7 := HGG.out; have := HOR3.out; omega)
        have fb0_W5 := (World.cell?_of_block gefb).trans fb0_wd
        have fb1_W5 := (World.cell?_of_block gefb).trans fb1_wd
        have fb2_W5 := (World.cell?_of_block gefb).trans fb2_wd
        have fb3_W5 := (World.cell?_of_block gefb).trans fb3_wd
        have fbF_W5 : ∀ o, W5.frozen? ⟨pX, o, none⟩ = false := fun o => (World.frozen?_of_block gefb).trans (fbF_wd o)
        have fbL_W5 : pX < W5.heap.size := Nat.lt_of_lt_of_le fbL_wd hg5.size
        have geot := hg5.block (w5.heap.size) otL_wd (fun e => by have h6 := Option.some.inj e; have h7 := HGG.out; have := HOR3.out; omega)
        have ot0_W5 := (World.cell?_of_block geot).trans ot0_wd
        have ot1_W5 := (World.cell?_of_block geot).trans ot1_wd
        have otF_W5 : ∀ o, W5.frozen? ⟨w5.heap.size, o, none⟩ = false := fun o => (World.frozen?_of_block geot).trans (otF_wd o)
        have otL_W5 : w5.heap.size < W5.heap.size := Nat.lt_of_lt_of_le otL_wd hg5.size
        have rsP_W5 := hidP (rsP_wd.out.blk hg5 (fun e => by have h6 := Option.some.inj e; have h7 := HGG.out; have := HOR3.out; omega))
        have rpP_W5 := hidP (rpP_wd.out.blk hg5 (fun e => by have h6 := Option.some.inj e; have h7 := HGG.out; have := HOR3.out; omega))
        have oP_W5 := hidP (OwnG.grown oP_wd.out hg5 (fun k hk e => by exact HPQ.out k hk (Option.some.inj e).symm))
        have sz_W5 : Hid (wd.heap.size ≤ W5.heap.size) := hidP hg5.size
        have acc_W5 := hidP (acc_wd.out.grown hg5 acc_wd.out.size (fun j e => by have h6 := Option.some.inj e; have h7 := HGG.out; have := HOR3.out; have := sz_W5.out; omega))
        clear hg5 acc_wd OWW fb0_wd fb1_wd fb2_wd fb3_wd fbF_wd fbL_wd gefb ot0_wd ot1_wd otF_wd otL_wd geot rsP_wd rpP_wd oP_wd
        have NE9 : Hid (∀ k, (Value.slice a5 np c5).ownBlock = some k → (Value.slice (some ⟨gg, 0, none⟩) (nb + 1) c9).ownBlock ≠ some k) := hidP (fun k h1 h2 => HPQ.out k h1 (by have := lhY.out k h2; exact this))
        have rs0_W5 := rsP_W5.out.1 0 _ rfl
        have rs1_W5 := rsP_W5.out.1 1 _ rfl
        have rsF_W5 := rsP_W5.out.2.1
        have rsL_W5 := rsP_W5.out.2.2
        clear rsP_W5
        have rp0_W5 := rpP_W5.out.1 0 _ rfl
        have rp1_W5 := rpP_W5.out.1 1 _ rfl
        have rp2_W5 := rpP_W5.out.1 2 _ rfl
        have rp3_W5 := rpP_W5.out.1 3 _ rfl
        have rpF_W5 := rpP_W5.out.2.1
        have rpL_W5 := rpP_W5.out.2.2
        clear rpP_W5
        have hbd := (Below.refl W5.heap.size W5).drew
        refine wp_region_held_drew (S := (fun x => x.cell? ⟨w5.heap.size, 0, none⟩ = some (.slice a5 np c5) ∧ x.cell? ⟨w5.heap.size, 1, none⟩ = some (.slice (some ⟨gg, 0, none⟩) (nb + 1) c9) ∧ x.cell? ⟨pX, 0, none⟩ = some (.bool F.s) ∧ x.cell? ⟨pX, 1, none⟩ = some (.int .i64 F.H.toInt) ∧ x.cell? ⟨pX, 2, none⟩ = some (.int .i64 F.L.toInt) ∧ x.cell? ⟨pX, 3, none⟩ = some (.int .i64 F.b))) (by kernel_rfl) ?_ (fun hHeld => ?_)
        · try dsimp only
          exact ⟨(hbd.cell otL_W5).trans ot0_W5, (hbd.cell otL_W5).trans ot1_W5, (hbd.cell fbL_W5).trans fb0_W5, (hbd.cell fbL_W5).trans fb1_W5, (hbd.cell fbL_W5).trans fb2_W5, (hbd.cell fbL_W5).trans fb3_W5⟩
        generalize W5.drew = V1 at *
        have fb0_V1 := (hbd.cell fbL_W5).trans fb0_W5
        have fb1_V1 := (hbd.cell fbL_W5).trans fb1_W5
        have fb2_V1 := (hbd.cell fbL_W5).trans fb2_W5
        have fb3_V1 := (hbd.cell fbL_W5).trans fb3_W5
        have fbF_V1 : ∀ o, V1.frozen? ⟨pX, o, none⟩ = false := fun o => (hbd.frozen fbL_W5).trans (fbF_W5 o)
        have fbL_V1 : pX < V1.heap.size := Nat.lt_of_lt_of_le fbL_W5 hbd.size
        have ot0_V1 := (hbd.cell otL_W5).trans ot0_W5
        have ot1_V1 := (hbd.cell otL_W5).trans ot1_W5
        have otF_V1 : ∀ o, V1.frozen? ⟨w5.heap.size, o, none⟩ = false := fun o => (hbd.frozen otL_W5).trans (otF_W5 o)
        have otL_V1 : w5.heap.size < V1.heap.size := Nat.lt_of_lt_of_le otL_W5 hbd.size
        have rs0_V1 := (hbd.cell rsL_W5).trans rs0_W5
        have rs1_V1 := (hbd.cell rsL_W5).trans rs1_W5
        have rsF_V1 : ∀ o, V1.frozen? ⟨w.heap.size + 1 + 1, o, none⟩ = false := fun o => (hbd.frozen rsL_W5).trans (rsF_W5 o)
        have rsL_V1 : w.heap.size + 1 + 1 < V1.heap.size := Nat.lt_of_lt_of_le rsL_W5 hbd.size
        have rp0_V1 := (hbd.cell rpL_W5).trans rp0_W5
        have rp1_V1 := (hbd.cell rpL_W5).trans rp1_W5
        have rp2_V1 := (hbd.cell rpL_W5).trans rp2_W5
        have rp3_V1 := (hbd.cell rpL_W5).trans rp3_W5
        have rpF_V1 : ∀ o, V1.frozen? ⟨w.heap.size + 1 + 1 + 1, o, none⟩ = false := fun o => (hbd.frozen rpL_W5).trans (rpF_W5 o)
        have rpL_V1 : w.heap.size + 1 + 1 + 1 < V1.heap.size := Nat.lt_of_lt_of_le rpL_W5 hbd.size
        have oP_V1 := hidP (OwnG.later oP_W5.out hbd)
        have oY_V1 := hidP (OwnG.later oY_W5.out hbd)
        have acc_V1 := hidP (acc_W5.out.trans (hbd.mono acc_W5.out.size))
        have sz_V1 : Hid (W5.heap.size ≤ V1.heap.size) := hidP hbd.size
        clear hbd fb0_W5 fb1_W5 fb2_W5 fb3_W5 fbF_W5 fbL_W5 ot0_W5 ot1_W5 otF_W5 otL_W5 rs0_W5 rs1_W5 rsF_W5 rsL_W5 rp0_W5 rp1_W5 rp2_W5 rp3_W5 rpF_W5 rpL_W5 oP_W5 oY_W5 acc_W5
        refine tk 0 106 rfl ?_
        simp only [pa]
        refine tk 1 107 rfl ?_
        simp only [pa]
        refine wpAnyH_ready (rs := [2]) (by kernel_rfl) (by simp) ?_
        refine AllReadyH.cons rfl (fun K hK => ?_) AllReadyH.nil
        go_simp
        have nxfb : pX ≠ w.heap.size + 1 + 1 := (by have := HOR3.out; have := sz_W5.out; have := sz_V1.out; omega)
        have nxot : w5.heap.size ≠ w.heap.size + 1 + 1 := (by have := HOR3.out; have := sz_W5.out; have := sz_V1.out; omega)
        have nxrp : w.heap.size + 1 + 1 + 1 ≠ w.heap.size + 1 + 1 := (by have := HOR3.out; have := sz_W5.out; have := sz_V1.out; omega)
        refine hK.out _ _ ?_ (fun hHeld => ?_)
        · try dsimp only
          exact ⟨(cellC (cellC ot0_V1 nxot) nxot), (cellC (cellC ot1_V1 nxot) nxot), (cellC (cellC fb0_V1 nxfb) nxfb), (cellC (cellC fb1_V1 nxfb) nxfb), (cellC (cellC fb2_V1 nxfb) nxfb), (cellC (cellC fb3_V1 nxfb) nxfb)⟩
        clear hK K
        have ryP : ∀ k, (Value.slice a5 np c5).ownBlock = some k → some (w.heap.size + 1 + 1) ≠ some k := (fun k hk e => by have h5 := lhP.out k hk; have h6 := Option.some.inj e; have := HOR3.out; have := sz_W5.out; have := sz_V1.out; omega)
        have ryY : ∀ k, (Value.slice (some ⟨gg, 0, none⟩) (nb + 1) c9).ownBlock = some k → some (w.heap.size + 1 + 1) ≠ some k := (fun k hk e => by have h5 := lhY.out k hk; have h6 := Option.some.inj e; have h7 := HGG.out; have := HOR3.out; have := sz_W5.out; have := sz_V1.out; omega)
        have lw : w.heap.size ≤ w.heap.size + 1 + 1 := (by have := HOR3.out; have := sz_W5.out; have := sz_V1.out; omega)
        generalize hWn : (V1.setCell ⟨w.heap.size + 1 + 1, 0, none⟩ (.slice a5 np c5)).setCell ⟨w.heap.size + 1 + 1, 1, none⟩ (.slice (some ⟨gg, 0, none⟩) (nb + 1) c9) = V2 at *
        have rs0_V2 : V2.cell? ⟨w.heap.size + 1 + 1, 0, none⟩ = some (.slice a5 np c5) := by rw [← hWn]; simp [go_sem, rs0_V1]
        have rs1_V2 : V2.cell? ⟨w.heap.size + 1 + 1, 1, none⟩ = some (.slice (some ⟨gg, 0, none⟩) (nb + 1) c9) := by rw [← hWn]; simp [go_sem, rs1_V1]
        have fb0_V2 : V2.cell? ⟨pX, 0, none⟩ = some (.bool F.s) := by rw [← hWn]; exact (cellC (cellC fb0_V1 nxfb) nxfb)
        have fb1_V2 : V2.cell? ⟨pX, 1, none⟩ = some (.int .i64 F.H.toInt) := by rw [← hWn]; exact (cellC (cellC fb1_V1 nxfb) nxfb)
        have fb2_V2 : V2.cell? ⟨pX, 2, none⟩ = some (.int .i64 F.L.toInt) := by rw [← hWn]; exact (cellC (cellC fb2_V1 nxfb) nxfb)
        have fb3_V2 : V2.cell? ⟨pX, 3, none⟩ = some (.int .i64 F.b) := by rw [← hWn]; exact (cellC (cellC fb3_V1 nxfb) nxfb)
        have fbF_V2 : ∀ o, V2.frozen? ⟨pX, o, none⟩ = false := fun o => by rw [← hWn]; exact (frzC (frzC (fbF_V1 o)))
        have fbL_V2 : pX < V2.heap.size := by rw [← hWn]; simpa using fbL_V1
        have ot0_V2 : V2.cell? ⟨w5.heap.size, 0, none⟩ = some (.slice a5 np c5) := by rw [← hWn]; exact (cellC (cellC ot0_V1 nxot) nxot)
        have ot1_V2 : V2.cell? ⟨w5.heap.size, 1, none⟩ = some (.slice (some ⟨gg, 0, none⟩) (nb + 1) c9) := by rw [← hWn]; exact (cellC (cellC ot1_V1 nxot) nxot)
        have otF_V2 : ∀ o, V2.frozen? ⟨w5.heap.size, o, none⟩ = false := fun o => by rw [← hWn]; exact (frzC (frzC (otF_V1 o)))
        have otL_V2 : w5.heap.size < V2.heap.size := by rw [← hWn]; simpa using otL_V1
        have rsF_V2 : ∀ o, V2.frozen? ⟨w.heap.size + 1 + 1, o, none⟩ = false := fun o => by rw [← hWn]; exact (frzC (frzC (rsF_V1 o)))
        have rsL_V2 : w.heap.size + 1 + 1 < V2.heap.size := by rw [← hWn]; simpa using rsL_V1
        have rp0_V2 : V2.cell? ⟨w.heap.size + 1 + 1 + 1, 0, none⟩ = some (.bool false) := by rw [← hWn]; exact (cellC (cellC rp0_V1 nxrp) nxrp)
        have rp1_V2 : V2.cell? ⟨w.heap.size + 1 + 1 + 1, 1, none⟩ = some (.int .i64 0) := by rw [← hWn]; exact (cellC (cellC rp1_V1 nxrp) nxrp)
        have rp2_V2 : V2.cell? ⟨w.heap.size + 1 + 1 + 1, 2, none⟩ = some (.int .i64 0) := by rw [← hWn]; exact (cellC (cellC rp2_V1 nxrp) nxrp)
        have rp3_V2 : V2.cell? ⟨w.heap.size + 1 + 1 + 1, 3, none⟩ = some (.int .i64 0) := by rw [← hWn]; exact (cellC (cellC rp3_V1 nxrp) nxrp)
        have rpF_V2 : ∀ o, V2.frozen? ⟨w.heap.size + 1 + 1 + 1, o, none⟩ = false := fun o => by rw [← hWn]; exact (frzC (frzC (rpF_V1 o)))
        have rpL_V2 : w.heap.size + 1 + 1 + 1 < V2.heap.size := by rw [← hWn]; simpa using rpL_V1
        have oP_V2 : Hid (OwnG KPl 46 V2 (W4.heap.size) (.slice a5 np c5) (ps)) := hidP (by rw [← hWn]; exact (OwnG.grown (OwnG.grown oP_V1.out (grown_cellG _ _ _ _) ryP) (grown_cellG _ _ _ _) ryP))
        have oY_V2 : Hid (OwnG KBk 38 V2 (W4.heap.size) (.slice (some ⟨gg, 0, none⟩) (nb + 1) c9) (insB ⟨F, ow⟩ bs)) := hidP (by rw [← hWn]; exact (OwnG.grown (OwnG.grown oY_V1.out (grown_cellG _ _ _ _) ryY) (grown_cellG _ _ _ _) ryY))
        have acc_V2 : Hid (Below w.heap.size w V2) := hidP (by rw [← hWn]; exact (Below.setCell (Below.setCell acc_V1.out lw _) lw _))
        have sz_V2 : Hid (V2.heap.size = V1.heap.size) := hidP (by rw [← hWn]; simp)
        clear hWn nxfb nxot nxrp ryP ryY lw rs0_V1 rs1_V1 fb0_V1 fb1_V1 fb2_V1 fb3_V1 fbF_V1 fbL_V1 ot0_V1 ot1_V1 otF_V1 otL_V1 rsF_V1 rsL_V1 rp0_V1 rp1_V1 rp2_V1 rp3_V1 rpF_V1 rpL_V1 oP_V1 oY_V1 acc_V1
        refine wpAnyH_ready (rs := [3]) (by kernel_rfl) (by simp) ?_
        refine AllReadyH.cons rfl (fun K hK => ?_) AllReadyH.nil
        go_simp
        have nxfb : pX ≠ w.heap.size + 1 + 1 + 1 := (by have := HOR3.out; have := sz_W5.out; have := sz_V1.out; have := sz_V2.out; omega)
        have nxot : w5.heap.size ≠ w.heap.size + 1 + 1 + 1 := (by have := HOR3.out; have := sz_W5.out; have := sz_V1.out; have := sz_V2.out; omega)
        have nxrs : w.heap.size + 1 + 1 ≠ w.heap.size + 1 + 1 + 1 := (by have := HOR3.out; have := sz_W5.out; have := sz_V1.out; have := sz_V2.out; omega)
        refine hK.out _ _ ?_ (fun hHeld => ?_)
        · try dsimp only
          exact ⟨(cellC (cellC (cellC (cellC ot0_V2 nxot) nxot) nxot) nxot), (cellC (cellC (cellC (cellC ot1_V2 nxot) nxot) nxot) nxot), (cellC (cellC (cellC (cellC fb0_V2 nxfb) nxfb) nxfb) nxfb), (cellC (cellC (cellC (cellC fb1_V2 nxfb) nxfb) nxfb) nxfb), (cellC (cellC (cellC (cellC fb2_V2 nxfb) nxfb) nxfb) nxfb), (cellC (cellC (cellC (cellC fb3_V2 nxfb) nxfb) nxfb) nxfb)⟩
        clear hK K
        clear nxot nxfb
        clear ot0_V2 ot1_V2 otF_V2 otL_V2
        clear fb0_V2 fb1_V2 fb2_V2 fb3_V2 fbF_V2 fbL_V2
        have ryP : ∀ k, (Value.slice a5 np c5).ownBlock = some k → some (w.heap.size + 1 + 1 + 1) ≠ some k := (fun k hk e => by have h5 := lhP.out k hk; have h6 := Option.some.inj e; have := HOR3.out; have := sz_W5.out; have := sz_V1.out; have := sz_V2.out; omega)
        have ryY : ∀ k, (Value.slice (some ⟨gg, 0, none⟩) (nb + 1) c9).ownBlock = some k → some (w.heap.size + 1 + 1 + 1) ≠ some k := (fun k hk e => by have h5 := lhY.out k hk; have h6 := Option.some.inj e; have h7 := HGG.out; have := HOR3.out; have := sz_W5.out; have := sz_V1.out; have := sz_V2.out; omega)
        have lw : w.heap.size ≤ w.heap.size + 1 + 1 + 1 := (by have := HOR3.out; have := sz_W5.out; have := sz_V1.out; have := sz_V2.out; omega)
        generalize hWn : (((V2.setCell ⟨w.heap.size + 1 + 1 + 1, 0, none⟩ (.bool F.s)).setCell ⟨w.heap.size + 1 + 1 + 1, 1, none⟩ (.int .i64 F.H.toInt)).setCell ⟨w.heap.size + 1 + 1 + 1, 2, none⟩ (.int .i64 F.L.toInt)).setCell ⟨w.heap.size + 1 + 1 + 1, 3, none⟩ (.int .i64 F.b) = V3 at *
        have rp0_V3 : V3.cell? ⟨w.heap.size + 1 + 1 + 1, 0, none⟩ = some (.bool F.s) := by rw [← hWn]; simp [go_sem, rp0_V2]
        have rp1_V3 : V3.cell? ⟨w.heap.size + 1 + 1 + 1, 1, none⟩ = some (.int .i64 F.H.toInt) := by rw [← hWn]; simp [go_sem, rp1_V2]
        have rp2_V3 : V3.cell? ⟨w.heap.size + 1 + 1 + 1, 2, none⟩ = some (.int .i64 F.L.toInt) := by rw [← hWn]; simp [go_sem, rp2_V2]
        have rp3_V3 : V3.cell? ⟨w.heap.size + 1 + 1 + 1, 3, none⟩ = some (.int .i64 F.b) := by rw [← hWn]; simp [go_sem, rp3_V2]
        have rs0_V3 : V3.cell? ⟨w.heap.size + 1 + 1, 0, none⟩ = some (.slice a5 np c5) := by rw [← hWn]; exact (cellC (cellC (cellC (cellC rs0_V2 nxrs) nxrs) nxrs) nxrs)
        have rs1_V3 : V3.cell? ⟨w.heap.size + 1 + 1, 1, none⟩ = some (.slice (some ⟨gg, 0, none⟩) (nb + 1) c9) := by rw [← hWn]; exact (cellC (cellC (cellC (cellC rs1_V2 nxrs) nxrs) nxrs) nxrs)
        have rsF_V3 : ∀ o, V3.frozen? ⟨w.heap.size + 1 + 1, o, none⟩ = false := fun o => by rw [← hWn]; exact (frzC (frzC (frzC (frzC (rsF_V2 o)))))
        have rsL_V3 : w.heap.size + 1 + 1 < V3.heap.size := by rw [← hWn]; simpa using rsL_V2
        have rpF_V3 : ∀ o, V3.frozen? ⟨w.heap.size + 1 + 1 + 1, o, none⟩ = false := fun o => by rw [← hWn]; exact (frzC (frzC (frzC (frzC (rpF_V2 o)))))
        have rpL_V3 : w.heap.size + 1 + 1 + 1 < V3.heap.size := by rw [← hWn]; simpa using rpL_V2
        have oP_V3 : Hid (OwnG KPl 46 V3 (W4.heap.size) (.slice a5 np c5) (ps)) := hidP (by rw [← hWn]; exact (OwnG.grown (OwnG.grown (OwnG.grown (OwnG.grown oP_V2.out (grown_cellG _ _ _ _) ryP) (grown_cellG _ _ _ _) ryP) (grown_cellG _ _ _ _) ryP) (grown_cellG _ _ _ _) ryP))
        have oY_V3 : Hid (OwnG KBk 38 V3 (W4.heap.size) (.slice (some ⟨gg, 0, none⟩) (nb + 1) c9) (insB ⟨F, ow⟩ bs)) := hidP (by rw [← hWn]; exact (OwnG.grown (OwnG.grown (OwnG.grown (OwnG.grown oY_V2.out (grown_cellG _ _ _ _) ryY) (grown_cellG _ _ _ _) ryY) (grown_cellG _ _ _ _) ryY) (grown_cellG _ _ _ _) ryY))
        have acc_V3 : Hid (Below w.heap.size w V3) := hidP (by rw [← hWn]; exact (Below.setCell (Below.setCell (Below.setCell (Below.setCell acc_V2.out lw _) lw _) lw _) lw _))
        have sz_V3 : Hid (V3.heap.size = V2.heap.size) := hidP (by rw [← hWn]; simp)
        clear hWn nxrs ryP ryY lw rp0_V2 rp1_V2 rp2_V2 rp3_V2 rs0_V2 rs1_V2 rsF_V2 rsL_V2 rpF_V2 rpL_V2 oP_V2 oY_V2 acc_V2
        refine tk 4 8 rfl ?_
        simp only [pa]
        refine wpAnyH_done (by kernel_rfl) ?_ _
        clear hHeld
        go_wp2_with fail
        have eO := HEO.out
        subst eO
        refine bodyPost_ret (v := .tuple #[.agg #[.slice a5 np c5, .slice (some ⟨gg, 0, none⟩) (nb + 1) c9], .agg #[.bool F.s, .int .i64 F.H.toInt, .int .i64 F.L.toInt, .int .i64 F.b], .int .i64 0]) (by simp [results, Tryz.results9, go_sem, rs0_V3, rs1_V3, rp0_V3, rp1_V3, rp2_V3, rp3_V3]) rfl ⟨_, _, _, _, _, rfl, ?_, ?_, ?_, ?_, ?_⟩
        · rw [ins_len]; have := HN.out.2; omega
        · have hB : w.heap.size + 1 + 1 + 1 < W4.heap.size ∧ w.heap.size ≤ W4.heap.size := (by have := HOR3.out; have := sz_W5.out; have := sz_V1.out; have := sz_V2.out; have := sz_V3.out; omega)
          refine OwnG.mono (B := W4.heap.size) ?_ hB.2
          repeat (first | (with_reducible refine OwnG.drewC ?_) | (with_reducible refine OwnG.grown ?_ (grown_cellG _ _ _ _) ?_; rotate_left; (focus (exact OwnG.ne_ofC oP_V3.out (by omega)))))
          with_reducible exact oP_V3.out
        · have hB : w.heap.size + 1 + 1 + 1 < W4.heap.size ∧ w.heap.size ≤ W4.heap.size := (by have := HOR3.out; have := sz_W5.out; have := sz_V1.out; have := sz_V2.out; have := sz_V3.out; omega)
          refine OwnG.mono (B := W4.heap.size) ?_ hB.2
          repeat (first | (with_reducible refine OwnG.drewC ?_) | (with_reducible refine OwnG.grown ?_ (grown_cellG _ _ _ _) ?_; rotate_left; (focus (exact OwnG.ne_ofC oY_V3.out (by omega)))))
          with_reducible exact oY_V3.out
        · exact NE9.out
        · repeat (first | (with_reducible refine Below.drew ?_) | (with_reducible refine Below.setCell ?_ ?_ _; rotate_left; (focus (first | (simp; done) | (simp; omega) | (dsimp only; have := HOR3.out; have := sz_W5.out; have := sz_V1.out; have := sz_V2.out; have := sz_V3.out; omega)))))
          exact acc_V3.out
      obtain ⟨m, hm⟩ : ∃ m, i = m + 1 := ⟨i - 1, by omega⟩
      have hmb : m < bs.length := by have := HN.out.2; omega
      obtain ⟨q9, hgL, hq9, y0, y1, y2, y3, y4⟩ := rowBk0 OWN.out m (by have := HLn.out; omega)
      have hq9' : bs[m]? = some q9 := by rw [← hq9, hm]; exact (at_take bs x m hmb).symm
      have HQ9 := hidP hq9'
      have HC9 := hidP (HCm.out q9 (List.mem_of_getElem? hq9'))
      have HM := hidP hm
      clear hq9 hq9' hmb
      have gz : decide ((i : Int) > 0) = true := decide_eq_true (by omega)
      have gz2 : decide ((0 : Int) < (i : Int)) = true := decide_eq_true (by omega)
      have gz3 : (0 : Int) < (i : Int) := by omega
      have wm : IntKind.i64.wrap ((i : Int) - 1) = (m : Int) := by rw [IntKind.wrap_i64]; omega
      have m0 : (0 : Int) ≤ (m : Int) := by omega
      have m1 : (m : Int) < (nb : Int) + 1 := by omega
      have m2 : m < nb + 1 := by omega
      have gz4 : decide (0 < i) = true := decide_eq_true (by omega)
      have gz5 : 0 < i := by omega
      clear hi0 hm
      have hcr : -9223372036854775808 ≤ cmpP q9.p F ∧ cmpP q9.p F ≤ 9223372036854775807 := cmp_rng _ _
      obtain ⟨cv, hcv⟩ : ∃ cv, cmpP q9.p F = cv := ⟨_, rfl⟩
      rw [hcv] at HC9 hcr
      have HCV := hidP hcv
      clear hcv hcr
      by_cases hc : 0 < cv
      · have dc : decide (cv > 0) = true := decide_eq_true hc
        have dc2 : decide (0 < cv) = true := decide_eq_true hc
        have HCC := hidP hc
        clear hc
        go_wp2_with fail
        have HSx : Hid (∀ x, Below wr.heap.size wr x → (x.cell? ⟨w5.heap.size, 0, none⟩ = some (.slice a5 np c5) ∧ x.cell? ⟨w5.heap.size, 1, none⟩ = some (.slice (some ⟨gg, 0, none⟩) (nb + 1) c9) ∧ x.cell? ⟨pX, 0, none⟩ = some (.bool F.s) ∧ x.cell? ⟨pX, 1, none⟩ = some (.int .i64 F.H.toInt) ∧ x.cell? ⟨pX, 2, none⟩ = some (.int .i64 F.L.toInt) ∧ x.cell? ⟨pX, 3, none⟩ = some (.int .i64 F.b) ∧ x.cell? ⟨gg, m * 5, none⟩ = some (.bool q9.p.s) ∧ x.cell? ⟨gg, m * 5 + 1, none⟩ = some (.int .i64 q9.p.H.toInt) ∧ x.cell? ⟨gg, m * 5 + 2, none⟩ = some (.int .i64 q9.p.L.toInt) ∧ x.cell? ⟨gg, m * 5 + 3, none⟩ = some (.int .i64 q9.p.b) ∧ x.cell? ⟨gg, m * 5 + 4, none⟩ = some (.string q9.t) ∧ Below wr.heap.size wr x)) := hidP fun x h =>
          ⟨(h.cell otL_wr).trans ot0_wr, (h.cell otL_wr).trans ot1_wr, (h.cell fbL_wr).trans fb0_wr, (h.cell fbL_wr).trans fb1_wr, (h.cell fbL_wr).trans fb2_wr, (h.cell fbL_wr).trans fb3_wr, (h.cell hgL).trans y0, (h.cell hgL).trans y1, (h.cell hgL).trans y2, (h.cell hgL).trans y3, (h.cell hgL).trans y4, h⟩
        refine wp_region_held_drew (S := (fun x => x.cell? ⟨w5.heap.size, 0, none⟩ = some (.slice a5 np c5) ∧ x.cell? ⟨w5.heap.size, 1, none⟩ = some (.slice (some ⟨gg, 0, none⟩) (nb + 1) c9) ∧ x.cell? ⟨pX, 0, none⟩ = some (.bool F.s) ∧ x.cell? ⟨pX, 1, none⟩ = some (.int .i64 F.H.toInt) ∧ x.cell? ⟨pX, 2, none⟩ = some (.int .i64 F.L.toInt) ∧ x.cell? ⟨pX, 3, none⟩ = some (.int .i64 F.b) ∧ x.cell? ⟨gg, m * 5, none⟩ = some (.bool q9.p.s) ∧ x.cell? ⟨gg, m * 5 + 1, none⟩ = some (.int .i64 q9.p.H.toInt) ∧ x.cell? ⟨gg, m * 5 + 2, none⟩ = some (.int .i64 q9.p.L.toInt) ∧ x.cell? ⟨gg, m * 5 + 3, none⟩ = some (.int .i64 q9.p.b) ∧ x.cell? ⟨gg, m * 5 + 4, none⟩ = some (.string q9.t) ∧ Below wr.heap.size wr x)) (by kernel_rfl) ?_ (fun hHeld => ?_)
        · try dsimp only
          exact HSx.out _ ((Below.refl _ _).drew)
        refine tk 0 73 rfl ?_
        simp only [pa]
        refine tk 1 74 rfl ?_
        simp only [pa]
        refine tk 2 75 rfl ?_
        simp only [pa]
        refine tk 3 76 rfl ?_
        simp only [pa]
        refine tk 4 77 rfl ?_
        simp only [pa]
        refine tk 5 78 rfl ?_
        simp only [pa]
        refine tk 6 79 rfl ?_
        simp only [pa]
        refine tk 7 80 rfl ?_
        simp only [pa]
        refine tk 8 81 rfl ?_
        simp only [pa]
        refine tk 9 82 rfl ?_
        simp only [pa]
        refine tk 10 83 rfl ?_
        simp only [pa]
        refine wpAnyH_ready (rs := [11]) (by kernel_rfl) (by simp) ?_
        refine AllReadyH.cons rfl (fun K hK => ?_) AllReadyH.nil
        go_simp
        go_wp2_with (first | (go_at_call 47; refine (HC9.out _).mono ?_; rintro e w20 ⟨rfl, hb20⟩; have b20 := (hHeld.2.2.2.2.2.2.2.2.2.2.2).trans (hb20.mono (hHeld.2.2.2.2.2.2.2.2.2.2.2).size)))
        refine hK.out _ _ ?_ (fun hHeld => ?_)
        · try dsimp only
          exact HSx.out _ b20
        clear hK K
        refine tk 12 85 rfl ?_
        simp only [pa]
        refine tk 13 86 rfl ?_
        simp only [pa]
        have HE := hidP (hHeld.2.2.2.2.2.2.2.2.2.2.2)
        refine wpAnyH_done (by kernel_rfl) ?_ _
        clear hHeld
        have hbd := HE.out
        clear HE HSx b20 hb20
        have z0 := (hbd.cell hgL).trans y0
        have z1 := (hbd.cell hgL).trans y1
        have z2 := (hbd.cell hgL).trans y2
        have z3 := (hbd.cell hgL).trans y3
        have z4 := (hbd.cell hgL).trans y4
        have hgL2 := Nat.lt_of_lt_of_le hgL hbd.size
        have OWW := hidP (OwnG.later OWN.out hbd)
        have HG2 := hidP (HGR.out.trans (grown_ofC hbd (some gg)))
        clear y0 y1 y2 y3 y4 hgL
        have rsP_w20 := hidP (rsP_wr.out.later hbd)
        have rpP_w20 := hidP (rpP_wr.out.later hbd)
        clear rsP_wr rpP_wr
        have fb0_w20 := (hbd.cell fbL_wr).trans fb0_wr
        have fb1_w20 := (hbd.cell fbL_wr).trans fb1_wr
        have fb2_w20 := (hbd.cell fbL_wr).trans fb2_wr
        have fb3_w20 := (hbd.cell fbL_wr).trans fb3_wr
        have fbF_w20 : ∀ o, w20.frozen? ⟨pX, o, none⟩ = false := fun o => (hbd.frozen fbL_wr).trans (fbF_wr o)
        have fbL_w20 : pX < w20.heap.size := Nat.lt_of_lt_of_le fbL_wr hbd.size
        have ot0_w20 := (hbd.cell otL_wr).trans ot0_wr
        have ot1_w20 := (hbd.cell otL_wr).trans ot1_wr
        have otF_w20 : ∀ o, w20.frozen? ⟨w5.heap.size, o, none⟩ = false := fun o => (hbd.frozen otL_wr).trans (otF_wr o)
        have otL_w20 : w5.heap.size < w20.heap.size := Nat.lt_of_lt_of_le otL_wr hbd.size
        have oP_w20 := hidP (OwnG.later oP_wr.out hbd)
        have acc_w20 := hidP (acc_wr.out.trans (hbd.mono acc_wr.out.size))
        have sz_w20 : Hid (wr.heap.size ≤ w20.heap.size) := hidP hbd.size
        clear hbd fb0_wr fb1_wr fb2_wr fb3_wr fbF_wr fbL_wr ot0_wr ot1_wr otF_wr otL_wr oP_wr acc_wr
        have HOR3 := hidP (And.intro HOR2.out (And.intro sz_w10.out (And.intro sz_wc.out (And.intro HPX.out (And.intro sz_X.out (And.intro as_X.out (And.intro sz_w9.out (And.intro HFX.out (And.intro sz_V.out (And.intro sz_wr.out sz_w20.out))))))))))
        clear HOR2 sz_w10 sz_wc sz_X sz_w9 sz_V sz_wr sz_w20
        go_wp2_with fail
        have hbe := (Below.refl w20.heap.size w20).drew
        refine wp_region_held_drew (S := (fun x => x.cell? ⟨w5.heap.size, 0, none⟩ = some (.slice a5 np c5) ∧ x.cell? ⟨w5.heap.size, 1, none⟩ = some (.slice (some ⟨gg, 0, none⟩) (nb + 1) c9) ∧ x.cell? ⟨gg, m * 5, none⟩ = some (.bool q9.p.s) ∧ x.cell? ⟨gg, m * 5 + 1, none⟩ = some (.int .i64 q9.p.H.toInt) ∧ x.cell? ⟨gg, m * 5 + 2, none⟩ = some (.int .i64 q9.p.L.toInt) ∧ x.cell? ⟨gg, m * 5 + 3, none⟩ = some (.int .i64 q9.p.b) ∧ x.cell? ⟨gg, m * 5 + 4, none⟩ = some (.string q9.t))) (by kernel_rfl) ?_ (fun hHeld => ?_)
        · try dsimp only
          exact ⟨(hbe.cell otL_w20).trans ot0_w20, (hbe.cell otL_w20).trans ot1_w20, (hbe.cell hgL2).trans z0, (hbe.cell hgL2).trans z1, (hbe.cell hgL2).trans z2, (hbe.cell hgL2).trans z3, (hbe.cell hgL2).trans z4⟩
        have OW2 := OwnG.later OWW.out hbe
        have HG3 := hidP (HG2.out.trans (grown_ofC hbe (some gg)))
        generalize w20.drew = D at *
        have rsP_D := hidP (rsP_w20.out.later hbe)
        have rpP_D := hidP (rpP_w20.out.later hbe)
        clear rsP_w20 rpP_w20
        have fb0_D := (hbe.cell fbL_w20).trans fb0_w20
        have fb1_D := (hbe.cell fbL_w20).trans fb1_w20
        have fb2_D := (hbe.cell fbL_w20).trans fb2_w20
        have fb3_D := (hbe.cell fbL_w20).trans fb3_w20
        have fbF_D : ∀ o, D.frozen? ⟨pX, o, none⟩ = false := fun o => (hbe.frozen fbL_w20).trans (fbF_w20 o)
        have fbL_D : pX < D.heap.size := Nat.lt_of_lt_of_le fbL_w20 hbe.size
        have ot0_D := (hbe.cell otL_w20).trans ot0_w20
        have ot1_D := (hbe.cell otL_w20).trans ot1_w20
        have otF_D : ∀ o, D.frozen? ⟨w5.heap.size, o, none⟩ = false := fun o => (hbe.frozen otL_w20).trans (otF_w20 o)
        have otL_D : w5.heap.size < D.heap.size := Nat.lt_of_lt_of_le otL_w20 hbe.size
        have oP_D := hidP (OwnG.later oP_w20.out hbe)
        have acc_D := hidP (acc_w20.out.trans (hbe.mono acc_w20.out.size))
        have sz_D : Hid (w20.heap.size ≤ D.heap.size) := hidP hbe.size
        clear hbe fb0_w20 fb1_w20 fb2_w20 fb3_w20 fbF_w20 fbL_w20 ot0_w20 ot1_w20 otF_w20 otL_w20 oP_w20 acc_w20
        have i0 : (0 : Int) ≤ (i : Int) := by omega
        have i1 : (i : Int) < (nb : Int) + 1 := by omega
        have i2 : i < nb + 1 := by omega
        refine tk 0 87 rfl ?_
        simp only [pa]
        refine tk 1 88 rfl ?_
        simp only [pa]
        refine tk 2 89 rfl ?_
        simp only [pa]
        refine tk 3 90 rfl ?_
        simp only [pa]
        refine tk 4 91 rfl ?_
        simp only [pa]
        refine tk 5 92 rfl ?_
        simp only [pa]
        refine tk 6 93 rfl ?_
        simp only [pa]
        refine tk 7 94 rfl ?_
        simp only [pa]
        refine tk 8 95 rfl ?_
        simp only [pa]
        refine tk 9 96 rfl ?_
        simp only [pa]
        obtain ⟨qx, hgL3, hqx, x0, x1, x2, x3, x4⟩ := rowBk0 OW2 i (by have := HLn.out; omega)
        obtain ⟨f0, f1, f2, f3, f4⟩ := frzBk OW2 i
        have hput := putBk OW2 HLn.out.symm i (by omega) q9
        have HPu := hidP hput
        clear hput hqx
        refine wpAnyH_ready (rs := [10]) (by kernel_rfl) (by simp) ?_
        refine AllReadyH.cons rfl (fun K hK => ?_) AllReadyH.nil
        go_simp
        refine hK.out _ _ ?_ (fun hHeld => ?_)
        · try dsimp only
          have hmi : m * 5 + 5 ≤ i * 5 := by have := HM.out; omega
          exact ⟨(cell_five ot0_D (by have h7 := HGG.out; have := HOR3.out; have := sz_D.out; omega)), (cell_five ot1_D (by have h7 := HGG.out; have := HOR3.out; have := sz_D.out; omega)), cell_fiveO (hHeld.2.2.1) (by omega), cell_fiveO (hHeld.2.2.2.1) (by omega), cell_fiveO (hHeld.2.2.2.2.1) (by omega), cell_fiveO (hHeld.2.2.2.2.2.1) (by omega), cell_fiveO (hHeld.2.2.2.2.2.2) (by omega)⟩
        clear hK K
        refine wpAnyH_done (by kernel_rfl) ?_ _
        clear hHeld
        go_wp2_with fail
        go_roundw
        case rel =>
          have h := HPu.out
          have hi := HM.out
          refine ⟨m, q9, by omega, by first | rfl | go_num | (rw [wm]), ?_, HG3.out.trans grown_five', fun j r hj hr => ?_⟩
          · rw [show (bs.take i ++ x :: bs.drop i).set i q9 = bs.take m ++ q9 :: bs.drop m by rw [hi]; exact mv_set bs x q9 m HQ9.out] at h
            exact h
          · rcases Nat.lt_or_ge j i with hji | hji
            · have e : j = m := by omega
              subst e
              have e2 := Option.some.inj (HQ9.out.symm.trans hr)
              rw [← e2, HCV.out]; exact HCC.out
            · exact HUp.out j r hji hr
        case measure => have := HM.out; simp [intOf]; omega
      have dc : decide (cv > 0) = false := decide_eq_false hc
      have dc2 : decide (0 < cv) = false := decide_eq_false hc
      have HCC := hidP hc
      clear hc
      go_wp2_with fail
      have HSx : Hid (∀ x, Below wr.heap.size wr x → (x.cell? ⟨w5.heap.size, 0, none⟩ = some (.slice a5 np c5) ∧ x.cell? ⟨w5.heap.size, 1, none⟩ = some (.slice (some ⟨gg, 0, none⟩) (nb + 1) c9) ∧ x.cell? ⟨pX, 0, none⟩ = some (.bool F.s) ∧ x.cell? ⟨pX, 1, none⟩ = some (.int .i64 F.H.toInt) ∧ x.cell? ⟨pX, 2, none⟩ = some (.int .i64 F.L.toInt) ∧ x.cell? ⟨pX, 3, none⟩ = some (.int .i64 F.b) ∧ x.cell? ⟨gg, m * 5, none⟩ = some (.bool q9.p.s) ∧ x.cell? ⟨gg, m * 5 + 1, none⟩ = some (.int .i64 q9.p.H.toInt) ∧ x.cell? ⟨gg, m * 5 + 2, none⟩ = some (.int .i64 q9.p.L.toInt) ∧ x.cell? ⟨gg, m * 5 + 3, none⟩ = some (.int .i64 q9.p.b) ∧ x.cell? ⟨gg, m * 5 + 4, none⟩ = some (.string q9.t) ∧ Below wr.heap.size wr x)) := hidP fun x h =>
        ⟨(h.cell otL_wr).trans ot0_wr, (h.cell otL_wr).trans ot1_wr, (h.cell fbL_wr).trans fb0_wr, (h.cell fbL_wr).trans fb1_wr, (h.cell fbL_wr).trans fb2_wr, (h.cell fbL_wr).trans fb3_wr, (h.cell hgL).trans y0, (h.cell hgL).trans y1, (h.cell hgL).trans y2, (h.cell hgL).trans y3, (h.cell hgL).trans y4, h⟩
      refine wp_region_held_drew (S := (fun x => x.cell? ⟨w5.heap.size, 0, none⟩ = some (.slice a5 np c5) ∧ x.cell? ⟨w5.heap.size, 1, none⟩ = some (.slice (some ⟨gg, 0, none⟩) (nb + 1) c9) ∧ x.cell? ⟨pX, 0, none⟩ = some (.bool F.s) ∧ x.cell? ⟨pX, 1, none⟩ = some (.int .i64 F.H.toInt) ∧ x.cell? ⟨pX, 2, none⟩ = some (.int .i64 F.L.toInt) ∧ x.cell? ⟨pX, 3, none⟩ = some (.int .i64 F.b) ∧ x.cell? ⟨gg, m * 5, none⟩ = some (.bool q9.p.s) ∧ x.cell? ⟨gg, m * 5 + 1, none⟩ = some (.int .i64 q9.p.H.toInt) ∧ x.cell? ⟨gg, m * 5 + 2, none⟩ = some (.int .i64 q9.p.L.toInt) ∧ x.cell? ⟨gg, m * 5 + 3, none⟩ = some (.int .i64 q9.p.b) ∧ x.cell? ⟨gg, m * 5 + 4, none⟩ = some (.string q9.t) ∧ Below wr.heap.size wr x)) (by kernel_rfl) ?_ (fun hHeld => ?_)
      · try dsimp only
        exact HSx.out _ ((Below.refl _ _).drew)
      refine tk 0 73 rfl ?_
      simp only [pa]
      refine tk 1 74 rfl ?_
      simp only [pa]
      refine tk 2 75 rfl ?_
      simp only [pa]
      refine tk 3 76 rfl ?_
      simp only [pa]
      refine tk 4 77 rfl ?_
      simp only [pa]
      refine tk 5 78 rfl ?_
      simp only [pa]
      refine tk 6 79 rfl ?_
      simp only [pa]
      refine tk 7 80 rfl ?_
      simp only [pa]
      refine tk 8 81 rfl ?_
      simp only [pa]
      refine tk 9 82 rfl ?_
      simp only [pa]
      refine tk 10 83 rfl ?_
      simp only [pa]
      refine wpAnyH_ready (rs := [11]) (by kernel_rfl) (by simp) ?_
      refine AllReadyH.cons rfl (fun K hK => ?_) AllReadyH.nil
      go_simp
      go_wp2_with (first | (go_at_call 47; refine (HC9.out _).mono ?_; rintro e w20 ⟨rfl, hb20⟩; have b20 := (hHeld.2.2.2.2.2.2.2.2.2.2.2).trans (hb20.mono (hHeld.2.2.2.2.2.2.2.2.2.2.2).size)))
      refine hK.out _ _ ?_ (fun hHeld => ?_)
      · try dsimp only
        exact HSx.out _ b20
      clear hK K
      refine tk 12 85 rfl ?_
      simp only [pa]
      refine tk 13 86 rfl ?_
      simp only [pa]
      have HE := hidP (hHeld.2.2.2.2.2.2.2.2.2.2.2)
      refine wpAnyH_done (by kernel_rfl) ?_ _
      clear hHeld
      have hbd := HE.out
      clear HE HSx b20 hb20 y0 y1 y2 y3 y4 hgL
      have OWW := hidP (OwnG.later OWN.out hbd)
      have rsP_w20 := hidP (rsP_wr.out.later hbd)
      have rpP_w20 := hidP (rpP_wr.out.later hbd)
      clear rsP_wr rpP_wr
      have fb0_w20 := (hbd.cell fbL_wr).trans fb0_wr
      have fb1_w20 := (hbd.cell fbL_wr).trans fb1_wr
      have fb2_w20 := (hbd.cell fbL_wr).trans fb2_wr
      have fb3_w20 := (hbd.cell fbL_wr).trans fb3_wr
      have fbF_w20 : ∀ o, w20.frozen? ⟨pX, o, none⟩ = false := fun o => (hbd.frozen fbL_wr).trans (fbF_wr o)
      have fbL_w20 : pX < w20.heap.size := Nat.lt_of_lt_of_le fbL_wr hbd.size
      have ot0_w20 := (hbd.cell otL_wr).trans ot0_wr
      have ot1_w20 := (hbd.cell otL_wr).trans ot1_wr
      have otF_w20 : ∀ o, w20.frozen? ⟨w5.heap.size, o, none⟩ = false := fun o => (hbd.frozen otL_wr).trans (otF_wr o)
      have otL_w20 : w5.heap.size < w20.heap.size := Nat.lt_of_lt_of_le otL_wr hbd.size
      have oP_w20 := hidP (OwnG.later oP_wr.out hbd)
      have acc_w20 := hidP (acc_wr.out.trans (hbd.mono acc_wr.out.size))
      have sz_w20 : Hid (wr.heap.size ≤ w20.heap.size) := hidP hbd.size
      clear hbd fb0_wr fb1_wr fb2_wr fb3_wr fbF_wr fbL_wr ot0_wr ot1_wr otF_wr otL_wr oP_wr acc_wr
      have HOR3 := hidP (And.intro HOR2.out (And.intro sz_w10.out (And.intro sz_wc.out (And.intro HPX.out (And.intro sz_X.out (And.intro as_X.out (And.intro sz_w9.out (And.intro HFX.out (And.intro sz_V.out (And.intro sz_wr.out sz_w20.out))))))))))
      clear HOR2 sz_w10 sz_wc sz_X sz_w9 sz_V sz_wr sz_w20
      have HLow : Hid (∀ (j : Nat) (r : Bk), j + 1 = i → bs[j]? = some r → cmpP r.p F < 0) := hidP (by
        intro j r hj hr
        have hm := HM.out
        have e : j = m := by omega
        subst e
        have e2 := Option.some.inj (HQ9.out.symm.trans hr)
        subst e2
        exact cmp_le (by rw [HCV.out]; have := HCC.out; omega) (HNw.out _ (List.mem_of_getElem? hr)))
      obtain ⟨qx, hgL, hqx, x0, x1, x2, x3, x4⟩ := rowBk0 OWW.out i (by have := HLn.out; omega)
      obtain ⟨f0, f1, f2, f3, f4⟩ := frzBk OWW.out i
      have hput := putBk OWW.out HLn.out.symm i (by omega) ⟨F, ow⟩
      rw [new_set bs x ⟨F, ow⟩ i (by have := HN.out.2; omega), ins_at ⟨F, ow⟩ bs i HAS.out.2 (by have := HN.out.2; omega) (fun j r hj hr => by have := HUp.out j r hj hr; show ¬ cmpP r.p F < 0; omega) HLow.out] at hput
      have i0 : (0 : Int) ≤ (i : Int) := by omega
      have i1 : (i : Int) < (nb : Int) + 1 := by omega
      have i2 : i < nb + 1 := by omega
      have HPu := hidP hput
      clear hput hqx hgL
      go_wp2_with fail
      have hg5 : w20.grownBy (((((w20.setCell ⟨gg, i * 5, none⟩ (.bool F.s)).setCell ⟨gg, i * 5 + 1, none⟩ (.int .i64 F.H.toInt)).setCell ⟨gg, i * 5 + 2, none⟩ (.int .i64 F.L.toInt)).setCell ⟨gg, i * 5 + 3, none⟩ (.int .i64 F.b)).setCell ⟨gg, i * 5 + 4, none⟩ (.string ow)) (some gg) := grown_five'
      have oY_W5 : Hid (OwnG KBk 38 (((((w20.setCell ⟨gg, i * 5, none⟩ (.bool F.s)).setCell ⟨gg, i * 5 + 1, none⟩ (.int .i64 F.H.toInt)).setCell ⟨gg, i * 5 + 2, none⟩ (.int .i64 F.L.toInt)).setCell ⟨gg, i * 5 + 3, none⟩ (.int .i64 F.b)).setCell ⟨gg, i * 5 + 4, none⟩ (.string ow)) W4.heap.size (.slice (some ⟨gg, 0, none⟩) (nb + 1) c9) (insB ⟨F, ow⟩ bs)) := HPu
      clear x0 x1 x2 x3 x4 f0 f1 f2 f3 f4 HPu
      generalize ((((w20.setCell ⟨gg, i * 5, none⟩ (.bool F.s)).setCell ⟨gg, i * 5 + 1, none⟩ (.int .i64 F.H.toInt)).setCell ⟨gg, i * 5 + 2, none⟩ (.int .i64 F.L.toInt)).setCell ⟨gg, i * 5 + 3, none⟩ (.int .i64 F.b)).setCell ⟨gg, i * 5 + 4, none⟩ (.string ow) = W5 at *
      have gefb := hg5.block (pX) fbL_w20 (fun e => by have h6 := Option.some.inj e; have h7 := HGG.out; have := HOR3.out; omega)
      have fb0_W5 := (World.cell?_of_block gefb).trans fb0_w20
      have fb1_W5 := (World.cell?_of_block gefb).trans fb1_w20
      have fb2_W5 := (World.cell?_of_block gefb).trans fb2_w20
      have fb3_W5 := (World.cell?_of_block gefb).trans fb3_w20
      have fbF_W5 : ∀ o, W5.frozen? ⟨pX, o, none⟩ = false := fun o => (World.frozen?_of_block gefb).trans (fbF_w20 o)
      have fbL_W5 : pX < W5.heap.size := Nat.lt_of_lt_of_le fbL_w20 hg5.size
      have geot := hg5.block (w5.heap.size) otL_w20 (fun e => by have h6 := Option.some.inj e; have h7 := HGG.out; have := HOR3.out; omega)
      have ot0_W5 := (World.cell?_of_block geot).trans ot0_w20
      have ot1_W5 := (World.cell?_of_block geot).trans ot1_w20
      have otF_W5 : ∀ o, W5.frozen? ⟨w5.heap.size, o, none⟩ = false := fun o => (World.frozen?_of_block geot).trans (otF_w20 o)
      have otL_W5 : w5.heap.size < W5.heap.size := Nat.lt_of_lt_of_le otL_w20 hg5.size
      have rsP_W5 := hidP (rsP_w20.out.blk hg5 (fun e => by have h6 := Option.some.inj e; have h7 := HGG.out; have := HOR3.out; omega))
      have rpP_W5 := hidP (rpP_w20.out.blk hg5 (fun e => by have h6 := Option.some.inj e; have h7 := HGG.out; have := HOR3.out; omega))
      have oP_W5 := hidP (OwnG.grown oP_w20.out hg5 (fun k hk e => by exact HPQ.out k hk (Option.some.inj e).symm))
      have sz_W5 : Hid (w20.heap.size ≤ W5.heap.size) := hidP hg5.size
      have acc_W5 := hidP (acc_w20.out.grown hg5 acc_w20.out.size (fun j e => by have h6 := Option.some.inj e; have h7 := HGG.out; have := HOR3.out; have := sz_W5.out; omega))
      clear hg5 acc_w20 OWW fb0_w20 fb1_w20 fb2_w20 fb3_w20 fbF_w20 fbL_w20 gefb ot0_w20 ot1_w20 otF_w20 otL_w20 geot rsP_w20 rpP_w20 oP_w20
      have NE9 : Hid (∀ k, (Value.slice a5 np c5).ownBlock = some k → (Value.slice (some ⟨gg, 0, none⟩) (nb + 1) c9).ownBlock ≠ some k) := hidP (fun k h1 h2 => HPQ.out k h1 (by have := lhY.out k h2; exact this))
      have rs0_W5 := rsP_W5.out.1 0 _ rfl
      have rs1_W5 := rsP_W5.out.1 1 _ rfl
      have rsF_W5 := rsP_W5.out.2.1
      have rsL_W5 := rsP_W5.out.2.2
      clear rsP_W5
      have rp0_W5 := rpP_W5.out.1 0 _ rfl
      have rp1_W5 := rpP_W5.out.1 1 _ rfl
      have rp2_W5 := rpP_W5.out.1 2 _ rfl
      have rp3_W5 := rpP_W5.out.1 3 _ rfl
      have rpF_W5 := rpP_W5.out.2.1
      have rpL_W5 := rpP_W5.out.2.2
      clear rpP_W5
      have hbd := (Below.refl W5.heap.size W5).drew
      refine wp_region_held_drew (S := (fun x => x.cell? ⟨w5.heap.size, 0, none⟩ = some (.slice a5 np c5) ∧ x.cell? ⟨w5.heap.size, 1, none⟩ = some (.slice (some ⟨gg, 0, none⟩) (nb + 1) c9) ∧ x.cell? ⟨pX, 0, none⟩ = some (.bool F.s) ∧ x.cell? ⟨pX, 1, none⟩ = some (.int .i64 F.H.toInt) ∧ x.cell? ⟨pX, 2, none⟩ = some (.int .i64 F.L.toInt) ∧ x.cell? ⟨pX, 3, none⟩ = some (.int .i64 F.b))) (by kernel_rfl) ?_ (fun hHeld => ?_)
      · try dsimp only
        exact ⟨(hbd.cell otL_W5).trans ot0_W5, (hbd.cell otL_W5).trans ot1_W5, (hbd.cell fbL_W5).trans fb0_W5, (hbd.cell fbL_W5).trans fb1_W5, (hbd.cell fbL_W5).trans fb2_W5, (hbd.cell fbL_W5).trans fb3_W5⟩
      generalize W5.drew = V1 at *
      have fb0_V1 := (hbd.cell fbL_W5).trans fb0_W5
      have fb1_V1 := (hbd.cell fbL_W5).trans fb1_W5
      have fb2_V1 := (hbd.cell fbL_W5).trans fb2_W5
      have fb3_V1 := (hbd.cell fbL_W5).trans fb3_W5
      have fbF_V1 : ∀ o, V1.frozen? ⟨pX, o, none⟩ = false := fun o => (hbd.frozen fbL_W5).trans (fbF_W5 o)
      have fbL_V1 : pX < V1.heap.size := Nat.lt_of_lt_of_le fbL_W5 hbd.size
      have ot0_V1 := (hbd.cell otL_W5).trans ot0_W5
      have ot1_V1 := (hbd.cell otL_W5).trans ot1_W5
      have otF_V1 : ∀ o, V1.frozen? ⟨w5.heap.size, o, none⟩ = false := fun o => (hbd.frozen otL_W5).trans (otF_W5 o)
      have otL_V1 : w5.heap.size < V1.heap.size := Nat.lt_of_lt_of_le otL_W5 hbd.size
      have rs0_V1 := (hbd.cell rsL_W5).trans rs0_W5
      have rs1_V1 := (hbd.cell rsL_W5).trans rs1_W5
      have rsF_V1 : ∀ o, V1.frozen? ⟨w.heap.size + 1 + 1, o, none⟩ = false := fun o => (hbd.frozen rsL_W5).trans (rsF_W5 o)
      have rsL_V1 : w.heap.size + 1 + 1 < V1.heap.size := Nat.lt_of_lt_of_le rsL_W5 hbd.size
      have rp0_V1 := (hbd.cell rpL_W5).trans rp0_W5
      have rp1_V1 := (hbd.cell rpL_W5).trans rp1_W5
      have rp2_V1 := (hbd.cell rpL_W5).trans rp2_W5
      have rp3_V1 := (hbd.cell rpL_W5).trans rp3_W5
      have rpF_V1 : ∀ o, V1.frozen? ⟨w.heap.size + 1 + 1 + 1, o, none⟩ = false := fun o => (hbd.frozen rpL_W5).trans (rpF_W5 o)
      have rpL_V1 : w.heap.size + 1 + 1 + 1 < V1.heap.size := Nat.lt_of_lt_of_le rpL_W5 hbd.size
      have oP_V1 := hidP (OwnG.later oP_W5.out hbd)
      have oY_V1 := hidP (OwnG.later oY_W5.out hbd)
      have acc_V1 := hidP (acc_W5.out.trans (hbd.mono acc_W5.out.size))
      have sz_V1 : Hid (W5.heap.size ≤ V1.heap.size) := hidP hbd.size
      clear hbd fb0_W5 fb1_W5 fb2_W5 fb3_W5 fbF_W5 fbL_W5 ot0_W5 ot1_W5 otF_W5 otL_W5 rs0_W5 rs1_W5 rsF_W5 rsL_W5 rp0_W5 rp1_W5 rp2_W5 rp3_W5 rpF_W5 rpL_W5 oP_W5 oY_W5 acc_W5
      refine tk 0 106 rfl ?_
      simp only [pa]
      refine tk 1 107 rfl ?_
      simp only [pa]
      refine wpAnyH_ready (rs := [2]) (by kernel_rfl) (by simp) ?_
      refine AllReadyH.cons rfl (fun K hK => ?_) AllReadyH.nil
      go_simp
      have nxfb : pX ≠ w.heap.size + 1 + 1 := (by have := HOR3.out; have := sz_W5.out; have := sz_V1.out; omega)
      have nxot : w5.heap.size ≠ w.heap.size + 1 + 1 := (by have := HOR3.out; have := sz_W5.out; have := sz_V1.out; omega)
      have nxrp : w.heap.size + 1 + 1 + 1 ≠ w.heap.size + 1 + 1 := (by have := HOR3.out; have := sz_W5.out; have := sz_V1.out; omega)
      refine hK.out _ _ ?_ (fun hHeld => ?_)
      · try dsimp only
        exact ⟨(cellC (cellC ot0_V1 nxot) nxot), (cellC (cellC ot1_V1 nxot) nxot), (cellC (cellC fb0_V1 nxfb) nxfb), (cellC (cellC fb1_V1 nxfb) nxfb), (cellC (cellC fb2_V1 nxfb) nxfb), (cellC (cellC fb3_V1 nxfb) nxfb)⟩
      clear hK K
      have ryP : ∀ k, (Value.slice a5 np c5).ownBlock = some k → some (w.heap.size + 1 + 1) ≠ some k := (fun k hk e => by have h5 := lhP.out k hk; have h6 := Option.some.inj e; have := HOR3.out; have := sz_W5.out; have := sz_V1.out; omega)
      have ryY : ∀ k, (Value.slice (some ⟨gg, 0, none⟩) (nb + 1) c9).ownBlock = some k → some (w.heap.size + 1 + 1) ≠ some k := (fun k hk e => by have h5 := lhY.out k hk; have h6 := Option.some.inj e; have h7 := HGG.out; have := HOR3.out; have := sz_W5.out; have := sz_V1.out; omega)
      have lw : w.heap.size ≤ w.heap.size + 1 + 1 := (by have := HOR3.out; have := sz_W5.out; have := sz_V1.out; omega)
      generalize hWn : (V1.setCell ⟨w.heap.size + 1 + 1, 0, none⟩ (.slice a5 np c5)).setCell ⟨w.heap.size + 1 + 1, 1, none⟩ (.slice (some ⟨gg, 0, none⟩) (nb + 1) c9) = V2 at *
      have rs0_V2 : V2.cell? ⟨w.heap.size + 1 + 1, 0, none⟩ = some (.slice a5 np c5) := by rw [← hWn]; simp [go_sem, rs0_V1]
      have rs1_V2 : V2.cell? ⟨w.heap.size + 1 + 1, 1, none⟩ = some (.slice (some ⟨gg, 0, none⟩) (nb + 1) c9) := by rw [← hWn]; simp [go_sem, rs1_V1]
      have fb0_V2 : V2.cell? ⟨pX, 0, none⟩ = some (.bool F.s) := by rw [← hWn]; exact (cellC (cellC fb0_V1 nxfb) nxfb)
      have fb1_V2 : V2.cell? ⟨pX, 1, none⟩ = some (.int .i64 F.H.toInt) := by rw [← hWn]; exact (cellC (cellC fb1_V1 nxfb) nxfb)
      have fb2_V2 : V2.cell? ⟨pX, 2, none⟩ = some (.int .i64 F.L.toInt) := by rw [← hWn]; exact (cellC (cellC fb2_V1 nxfb) nxfb)
      have fb3_V2 : V2.cell? ⟨pX, 3, none⟩ = some (.int .i64 F.b) := by rw [← hWn]; exact (cellC (cellC fb3_V1 nxfb) nxfb)
      have fbF_V2 : ∀ o, V2.frozen? ⟨pX, o, none⟩ = false := fun o => by rw [← hWn]; exact (frzC (frzC (fbF_V1 o)))
      have fbL_V2 : pX < V2.heap.size := by rw [← hWn]; simpa using fbL_V1
      have ot0_V2 : V2.cell? ⟨w5.heap.size, 0, none⟩ = some (.slice a5 np c5) := by rw [← hWn]; exact (cellC (cellC ot0_V1 nxot) nxot)
      have ot1_V2 : V2.cell? ⟨w5.heap.size, 1, none⟩ = some (.slice (some ⟨gg, 0, none⟩) (nb + 1) c9) := by rw [← hWn]; exact (cellC (cellC ot1_V1 nxot) nxot)
      have otF_V2 : ∀ o, V2.frozen? ⟨w5.heap.size, o, none⟩ = false := fun o => by rw [← hWn]; exact (frzC (frzC (otF_V1 o)))
      have otL_V2 : w5.heap.size < V2.heap.size := by rw [← hWn]; simpa using otL_V1
      have rsF_V2 : ∀ o, V2.frozen? ⟨w.heap.size + 1 + 1, o, none⟩ = false := fun o => by rw [← hWn]; exact (frzC (frzC (rsF_V1 o)))
      have rsL_V2 : w.heap.size + 1 + 1 < V2.heap.size := by rw [← hWn]; simpa using rsL_V1
      have rp0_V2 : V2.cell? ⟨w.heap.size + 1 + 1 + 1, 0, none⟩ = some (.bool false) := by rw [← hWn]; exact (cellC (cellC rp0_V1 nxrp) nxrp)
      have rp1_V2 : V2.cell? ⟨w.heap.size + 1 + 1 + 1, 1, none⟩ = some (.int .i64 0) := by rw [← hWn]; exact (cellC (cellC rp1_V1 nxrp) nxrp)
      have rp2_V2 : V2.cell? ⟨w.heap.size + 1 + 1 + 1, 2, none⟩ = some (.int .i64 0) := by rw [← hWn]; exact (cellC (cellC rp2_V1 nxrp) nxrp)
      have rp3_V2 : V2.cell? ⟨w.heap.size + 1 + 1 + 1, 3, none⟩ = some (.int .i64 0) := by rw [← hWn]; exact (cellC (cellC rp3_V1 nxrp) nxrp)
      have rpF_V2 : ∀ o, V2.frozen? ⟨w.heap.size + 1 + 1 + 1, o, none⟩ = false := fun o => by rw [← hWn]; exact (frzC (frzC (rpF_V1 o)))
      have rpL_V2 : w.heap.size + 1 + 1 + 1 < V2.heap.size := by rw [← hWn]; simpa using rpL_V1
      have oP_V2 : Hid (OwnG KPl 46 V2 (W4.heap.size) (.slice a5 np c5) (ps)) := hidP (by rw [← hWn]; exact (OwnG.grown (OwnG.grown oP_V1.out (grown_cellG _ _ _ _) ryP) (grown_cellG _ _ _ _) ryP))
      have oY_V2 : Hid (OwnG KBk 38 V2 (W4.heap.size) (.slice (some ⟨gg, 0, none⟩) (nb + 1) c9) (insB ⟨F, ow⟩ bs)) := hidP (by rw [← hWn]; exact (OwnG.grown (OwnG.grown oY_V1.out (grown_cellG _ _ _ _) ryY) (grown_cellG _ _ _ _) ryY))
      have acc_V2 : Hid (Below w.heap.size w V2) := hidP (by rw [← hWn]; exact (Below.setCell (Below.setCell acc_V1.out lw _) lw _))
      have sz_V2 : Hid (V2.heap.size = V1.heap.size) := hidP (by rw [← hWn]; simp)
      clear hWn nxfb nxot nxrp ryP ryY lw rs0_V1 rs1_V1 fb0_V1 fb1_V1 fb2_V1 fb3_V1 fbF_V1 fbL_V1 ot0_V1 ot1_V1 otF_V1 otL_V1 rsF_V1 rsL_V1 rp0_V1 rp1_V1 rp2_V1 rp3_V1 rpF_V1 rpL_V1 oP_V1 oY_V1 acc_V1
      refine wpAnyH_ready (rs := [3]) (by kernel_rfl) (by simp) ?_
      refine AllReadyH.cons rfl (fun K hK => ?_) AllReadyH.nil
      go_simp
      have nxfb : pX ≠ w.heap.size + 1 + 1 + 1 := (by have := HOR3.out; have := sz_W5.out; have := sz_V1.out; have := sz_V2.out; omega)
      have nxot : w5.heap.size ≠ w.heap.size + 1 + 1 + 1 := (by have := HOR3.out; have := sz_W5.out; have := sz_V1.out; have := sz_V2.out; omega)
      have nxrs : w.heap.size + 1 + 1 ≠ w.heap.size + 1 + 1 + 1 := (by have := HOR3.out; have := sz_W5.out; have := sz_V1.out; have := sz_V2.out; omega)
      refine hK.out _ _ ?_ (fun hHeld => ?_)
      · try dsimp only
        exact ⟨(cellC (cellC (cellC (cellC ot0_V2 nxot) nxot) nxot) nxot), (cellC (cellC (cellC (cellC ot1_V2 nxot) nxot) nxot) nxot), (cellC (cellC (cellC (cellC fb0_V2 nxfb) nxfb) nxfb) nxfb), (cellC (cellC (cellC (cellC fb1_V2 nxfb) nxfb) nxfb) nxfb), (cellC (cellC (cellC (cellC fb2_V2 nxfb) nxfb) nxfb) nxfb), (cellC (cellC (cellC (cellC fb3_V2 nxfb) nxfb) nxfb) nxfb)⟩
      clear hK K
      clear nxot nxfb
      clear ot0_V2 ot1_V2 otF_V2 otL_V2
      clear fb0_V2 fb1_V2 fb2_V2 fb3_V2 fbF_V2 fbL_V2
      have ryP : ∀ k, (Value.slice a5 np c5).ownBlock = some k → some (w.heap.size + 1 + 1 + 1) ≠ some k := (fun k hk e => by have h5 := lhP.out k hk; have h6 := Option.some.inj e; have := HOR3.out; have := sz_W5.out; have := sz_V1.out; have := sz_V2.out; omega)
      have ryY : ∀ k, (Value.slice (some ⟨gg, 0, none⟩) (nb + 1) c9).ownBlock = some k → some (w.heap.size + 1 + 1 + 1) ≠ some k := (fun k hk e => by have h5 := lhY.out k hk; have h6 := Option.some.inj e; have h7 := HGG.out; have := HOR3.out; have := sz_W5.out; have := sz_V1.out; have := sz_V2.out; omega)
      have lw : w.heap.size ≤ w.heap.size + 1 + 1 + 1 := (by have := HOR3.out; have := sz_W5.out; have := sz_V1.out; have := sz_V2.out; omega)
      generalize hWn : (((V2.setCell ⟨w.heap.size + 1 + 1 + 1, 0, none⟩ (.bool F.s)).setCell ⟨w.heap.size + 1 + 1 + 1, 1, none⟩ (.int .i64 F.H.toInt)).setCell ⟨w.heap.size + 1 + 1 + 1, 2, none⟩ (.int .i64 F.L.toInt)).setCell ⟨w.heap.size + 1 + 1 + 1, 3, none⟩ (.int .i64 F.b) = V3 at *
      have rp0_V3 : V3.cell? ⟨w.heap.size + 1 + 1 + 1, 0, none⟩ = some (.bool F.s) := by rw [← hWn]; simp [go_sem, rp0_V2]
      have rp1_V3 : V3.cell? ⟨w.heap.size + 1 + 1 + 1, 1, none⟩ = some (.int .i64 F.H.toInt) := by rw [← hWn]; simp [go_sem, rp1_V2]
      have rp2_V3 : V3.cell? ⟨w.heap.size + 1 + 1 + 1, 2, none⟩ = some (.int .i64 F.L.toInt) := by rw [← hWn]; simp [go_sem, rp2_V2]
      have rp3_V3 : V3.cell? ⟨w.heap.size + 1 + 1 + 1, 3, none⟩ = some (.int .i64 F.b) := by rw [← hWn]; simp [go_sem, rp3_V2]
      have rs0_V3 : V3.cell? ⟨w.heap.size + 1 + 1, 0, none⟩ = some (.slice a5 np c5) := by rw [← hWn]; exact (cellC (cellC (cellC (cellC rs0_V2 nxrs) nxrs) nxrs) nxrs)
      have rs1_V3 : V3.cell? ⟨w.heap.size + 1 + 1, 1, none⟩ = some (.slice (some ⟨gg, 0, none⟩) (nb + 1) c9) := by rw [← hWn]; exact (cellC (cellC (cellC (cellC rs1_V2 nxrs) nxrs) nxrs) nxrs)
      have rsF_V3 : ∀ o, V3.frozen? ⟨w.heap.size + 1 + 1, o, none⟩ = false := fun o => by rw [← hWn]; exact (frzC (frzC (frzC (frzC (rsF_V2 o)))))
      have rsL_V3 : w.heap.size + 1 + 1 < V3.heap.size := by rw [← hWn]; simpa using rsL_V2
      have rpF_V3 : ∀ o, V3.frozen? ⟨w.heap.size + 1 + 1 + 1, o, none⟩ = false := fun o => by rw [← hWn]; exact (frzC (frzC (frzC (frzC (rpF_V2 o)))))
      have rpL_V3 : w.heap.size + 1 + 1 + 1 < V3.heap.size := by rw [← hWn]; simpa using rpL_V2
      have oP_V3 : Hid (OwnG KPl 46 V3 (W4.heap.size) (.slice a5 np c5) (ps)) := hidP (by rw [← hWn]; exact (OwnG.grown (OwnG.grown (OwnG.grown (OwnG.grown oP_V2.out (grown_cellG _ _ _ _) ryP) (grown_cellG _ _ _ _) ryP) (grown_cellG _ _ _ _) ryP) (grown_cellG _ _ _ _) ryP))
      have oY_V3 : Hid (OwnG KBk 38 V3 (W4.heap.size) (.slice (some ⟨gg, 0, none⟩) (nb + 1) c9) (insB ⟨F, ow⟩ bs)) := hidP (by rw [← hWn]; exact (OwnG.grown (OwnG.grown (OwnG.grown (OwnG.grown oY_V2.out (grown_cellG _ _ _ _) ryY) (grown_cellG _ _ _ _) ryY) (grown_cellG _ _ _ _) ryY) (grown_cellG _ _ _ _) ryY))
      have acc_V3 : Hid (Below w.heap.size w V3) := hidP (by rw [← hWn]; exact (Below.setCell (Below.setCell (Below.setCell (Below.setCell acc_V2.out lw _) lw _) lw _) lw _))
      have sz_V3 : Hid (V3.heap.size = V2.heap.size) := hidP (by rw [← hWn]; simp)
      clear hWn nxrs ryP ryY lw rp0_V2 rp1_V2 rp2_V2 rp3_V2 rs0_V2 rs1_V2 rsF_V2 rsL_V2 rpF_V2 rpL_V2 oP_V2 oY_V2 acc_V2
      refine tk 4 8 rfl ?_
      simp only [pa]
      refine wpAnyH_done (by kernel_rfl) ?_ _
      clear hHeld
      go_wp2_with fail
      have eO := HEO.out
      subst eO
      refine bodyPost_ret (v := .tuple #[.agg #[.slice a5 np c5, .slice (some ⟨gg, 0, none⟩) (nb + 1) c9], .agg #[.bool F.s, .int .i64 F.H.toInt, .int .i64 F.L.toInt, .int .i64 F.b], .int .i64 0]) (by simp [results, Tryz.results9, go_sem, rs0_V3, rs1_V3, rp0_V3, rp1_V3, rp2_V3, rp3_V3]) rfl ⟨_, _, _, _, _, rfl, ?_, ?_, ?_, ?_, ?_⟩
      · rw [ins_len]; have := HN.out.2; omega
      · have hB : w.heap.size + 1 + 1 + 1 < W4.heap.size ∧ w.heap.size ≤ W4.heap.size := (by have := HOR3.out; have := sz_W5.out; have := sz_V1.out; have := sz_V2.out; have := sz_V3.out; omega)
        refine OwnG.mono (B := W4.heap.size) ?_ hB.2
        repeat (first | (with_reducible refine OwnG.drewC ?_) | (with_reducible refine OwnG.grown ?_ (grown_cellG _ _ _ _) ?_; rotate_left; (focus (exact OwnG.ne_ofC oP_V3.out (by omega)))))
        with_reducible exact oP_V3.out
      · have hB : w.heap.size + 1 + 1 + 1 < W4.heap.size ∧ w.heap.size ≤ W4.heap.size := (by have := HOR3.out; have := sz_W5.out; have := sz_V1.out; have := sz_V2.out; have := sz_V3.out; omega)
        refine OwnG.mono (B := W4.heap.size) ?_ hB.2
        repeat (first | (with_reducible refine OwnG.drewC ?_) | (with_reducible refine OwnG.grown ?_ (grown_cellG _ _ _ _) ?_; rotate_left; (focus (exact OwnG.ne_ofC oY_V3.out (by omega)))))
        with_reducible exact oY_V3.out
      · exact NE9.out
      · repeat (first | (with_reducible refine Below.drew ?_) | (with_reducible refine Below.setCell ?_ ?_ _; rotate_left; (focus (first | (simp; done) | (simp; omega) | (dsimp only; have := HOR3.out; have := sz_W5.out; have := sz_V1.out; have := sz_V2.out; have := sz_V3.out; omega)))))
        exact acc_V3.out

end Go.Proofs.YtdbcdichmmcnbaaGreat
