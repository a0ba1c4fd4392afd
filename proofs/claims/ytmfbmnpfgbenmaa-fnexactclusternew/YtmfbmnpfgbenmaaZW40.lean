/-
  What both Restart answer, by value; slots by name.
-/
import Derived.Test.YtmfbmnpfgbenmaaZW36
import Derived.Test.YtmfbmnpfgbenmaaZW37
import Derived.Test.YtmfbmnpfgbenmaaZW38
import Derived.Test.YtmfbmnpfgbenmaaZW39
import Derived.Test.YtmfbmnpfgbenmaaZW26
import Derived.Test.YtmfbmnpfgbenmaaZW15
import Derived.Test.YtmfbmnpfgbenmaaZW27
import Derived.Test.YtmfbmnpfgbenmaaZW12
import Derived.Great.BuildSlice
namespace Go.Proofs.Ytmfbmnpfgbenmaa
open Go.ChangeShapes Go.WideShapes Go.ChangeAt Go.RowKit Go.Joins Go.Deep

abbrev SvA := (((((((((Unit × Int) × KeA) × Int) × Int) × Int) × List Int) × List Int) × List Int) × Int) × Int
def z8 : List Int := [0, 0, 0, 0, 0, 0, 0, 0]
def keZ : KeA := (((((((((), 0), 0), 0), 0), (((), []), []))), []), [])
def svY (id : Int) (x : KeA) (B : Int) : SvA := ((((((((((((), id), x), 0), 0), B), []), z8), z8), 0), 6))
def svZ : SvA := ((((((((((((), 0), keZ), 0), 0), 0), []), z8), z8), 0), 0))
def zs8 : List Value := [.int .i64 0, .int .i64 0, .int .i64 0, .int .i64 0, .int .i64 0, .int .i64 0, .int .i64 0, .int .i64 0]
/-- A server of its parts. -/
theorem sv_of {W : World} {F : Nat → Prop} {id r l B e t : Int} {ks : List Value} {x : KeA} (h : mKeep.own W F ks x) :
    mServer.own W F (((((((((([] ++ [.int .i64 id]) ++ ks) ++ [.int .i64 r]) ++ [.int .i64 l]) ++ [.int .i64 B]) ++ [.slice none 0 0]) ++ zs8) ++ zs8) ++ [.int .i64 e]) ++ [.int .i64 t]) ((((((((((((), id), x), r), l), B), []), z8), z8), e), t)) := by
  have no : ∀ q : Nat, F q → ¬ (fun _ : Nat => False) q := fun _ _ h => h
  have s1 : ∀ q : Nat, F q → F q := fun _ h => h
  have s0 : ∀ q : Nat, False → F q := fun _ h => h.elim
  exact ⟨_, [.int .i64 t], F, fun _ => False, rfl, s1, s0, no, ⟨_, [.int .i64 e], F, fun _ => False, rfl, s1, s0, no, ⟨_, zs8, F, fun _ => False, rfl, s1, s0, no, ⟨_, zs8, F, fun _ => False, rfl, s1, s0, no, ⟨_, [.slice none 0 0], F, fun _ => False, rfl, s1, s0, no, ⟨_, [.int .i64 B], F, fun _ => False, rfl, s1, s0, no, ⟨_, [.int .i64 l], F, fun _ => False, rfl, s1, s0, no, ⟨_, [.int .i64 r], F, fun _ => False, rfl, s1, s0, no, ⟨_, ks, fun _ => False, F, rfl, s0, s1, fun _ h => h.elim, ⟨[], [.int .i64 id], fun _ => False, fun _ => False, rfl, fun _ h => h, fun _ h => h, fun _ h => h.elim, rfl, rfl⟩, h⟩, rfl⟩, rfl⟩, rfl⟩, .inl ⟨rfl, none, 0, rfl⟩⟩, ⟨rfl, rfl⟩⟩, ⟨rfl, rfl⟩⟩, rfl⟩, rfl⟩
theorem sv_own {W : World} {F : Nat → Prop} {id B : Int} {ks : List Value} {x : KeA} (h : mKeep.own W F ks x) : mServer.own W F (svC id ks B) (svY id x B) := by
  have e : svC id ks B = ((((((((([] ++ [.int .i64 id]) ++ ks) ++ [.int .i64 0]) ++ [.int .i64 0]) ++ [.int .i64 B]) ++ [.slice none 0 0]) ++ zs8) ++ zs8) ++ [.int .i64 0]) ++ [.int .i64 6] := by simp [svC, zs8]
  rw [e]
  exact sv_of h
theorem keZ_own {W : World} {F : Nat → Prop} : mKeep.own W F [.int .i64 0, .int .i64 0, .int .i64 0, .int .i64 0, .slice none 0 0, .slice none 0 0, .slice none 0 0, .slice none 0 0] keZ := by
  have no : ∀ q : Nat, F q → ¬ (fun _ : Nat => False) q := fun _ _ h => h
  have s1 : ∀ q : Nat, F q → F q := fun _ h => h
  have s0 : ∀ q : Nat, False → F q := fun _ h => h.elim
  exact ⟨[.int .i64 0, .int .i64 0, .int .i64 0, .int .i64 0, .slice none 0 0, .slice none 0 0, .slice none 0 0], [.slice none 0 0], F, fun _ => False, rfl, s1, s0, no, ⟨[.int .i64 0, .int .i64 0, .int .i64 0, .int .i64 0, .slice none 0 0, .slice none 0 0], [.slice none 0 0], F, fun _ => False, rfl, s1, s0, no, ⟨[.int .i64 0, .int .i64 0, .int .i64 0, .int .i64 0], [.slice none 0 0, .slice none 0 0], F, fun _ => False, rfl, s1, s0, no, ⟨[.int .i64 0, .int .i64 0, .int .i64 0], [.int .i64 0], F, fun _ => False, rfl, s1, s0, no, ⟨[.int .i64 0, .int .i64 0], [.int .i64 0], F, fun _ => False, rfl, s1, s0, no, ⟨[.int .i64 0], [.int .i64 0], F, fun _ => False, rfl, s1, s0, no, ⟨[], [.int .i64 0], F, fun _ => False, rfl, s1, s0, no, rfl, rfl⟩, rfl⟩, rfl⟩, rfl⟩, ⟨[.slice none 0 0], [.slice none 0 0], fun _ => False, fun _ => False, rfl, fun _ h => h, fun _ h => h, fun _ h => h.elim, ⟨[], [.slice none 0 0], fun _ => False, fun _ => False, rfl, fun _ h => h, fun _ h => h, fun _ h => h.elim, rfl, .inl ⟨rfl, none, 0, rfl⟩⟩, .inl ⟨rfl, none, 0, rfl⟩⟩⟩, .inl ⟨rfl, none, 0, rfl⟩⟩, .inl ⟨rfl, none, 0, rfl⟩⟩
theorem svN_own {W : World} {F : Nat → Prop} : mServer.own W F svN svZ := sv_of (id := 0) (r := 0) (l := 0) (B := 0) (e := 0) (t := 0) keZ_own
theorem sv_rep {W : World} {D : Nat} {id B : Int} {ks : List Value} {x : KeA} (h : cKeep.rep W D ks x) : cServer.rep W D (svC id ks B) (svY id x B) := by
  have e : svC id ks B = ((((((((([] ++ [.int .i64 id]) ++ ks) ++ [.int .i64 0]) ++ [.int .i64 0]) ++ [.int .i64 B]) ++ [.slice none 0 0]) ++ zs8) ++ zs8) ++ [.int .i64 0]) ++ [.int .i64 6] := by simp [svC, zs8]
  rw [e]
  exact ⟨_, [.int .i64 6], rfl, ⟨_, [.int .i64 0], rfl, ⟨_, zs8, rfl, ⟨_, zs8, rfl, ⟨_, [.slice none 0 0], rfl, ⟨_, [.int .i64 B], rfl, ⟨_, [.int .i64 0], rfl, ⟨_, [.int .i64 0], rfl, ⟨_, ks, rfl, ⟨[], [.int .i64 id], rfl, rfl, rfl⟩, h⟩, rfl⟩, rfl⟩, rfl⟩, ⟨none, 0, rfl, Nat.zero_le _, fun j x h => absurd (show ([] : List Int)[j]? = some x from h) (by simp)⟩⟩, ⟨rfl, rfl⟩⟩, ⟨rfl, rfl⟩⟩, rfl⟩, rfl⟩
/-- What Restart answers. -/
def svB (id : Int) (k : Kv) (ss : List Int) : SvA := if (inB id 1 7 && kvB k) = true then svY id (keX k ss) k.B else svZ
theorem svB_same {m k : Kv} {id : Int} {ss : List Int} (h : KvE m k) : svB id k ss = svB id m ss := by
  unfold svB
  rw [kvB_same h, keX_same h, h.B]

set_option maxHeartbeats 400000 in
theorem isWithinR (n l m : Int) (r : Bool) (h : inB n l m = r) (w : World) :
    Calls Try.prog 23 #[.int .i64 n, .int .i64 l, .int .i64 m] w fun e w' => e = .returned (.bool r) ∧ w = w' := by
  unfold inB at h
  cases a1 : decide (l ≤ n) <;> cases a2 : decide (n ≤ m) <;> simp only [a1, a2, Bool.true_and, Bool.false_and] at h <;> subst h
  all_goals
    go_enter Try.func23, Try.ntmps23
    go_wp2
    go_ret
    exact ⟨rfl, rfl⟩
set_option maxHeartbeats 400000 in
theorem isIdR (n : Int) (w : World) :
    Calls Try.prog 65 #[.int .i64 n] w fun e w' => e = .returned (.bool (inB n 1 7)) ∧ w = w' := by
  have H := hidP (fun W => isWithinR n 1 7 _ rfl W)
  go_enter Try.func65, Try.ntmps65
  go_wp2_with fail
  refine (H.out _).mono ?_
  rintro e w1 ⟨rfl, rfl⟩
  go_wp2_with fail
  go_ret
  exact ⟨rfl, rfl⟩
theorem iRestart_c (id : Int) (k : Kv) (ss : List Int) (w : World) (h : KvF w k ss) (hs : KvS k) :
    Calls Try.prog 26 #[.int .i64 id, k.v] w fun e V => ∃ us, e = .returned (vA us) ∧ mServer.own V (fun q => w.heap.size ≤ q ∧ q < V.heap.size) us (svB id k ss) ∧ Below w.heap.size w V := by
  refine calls_of_wp Try.func26 rfl ?_
  refine iRestart_walk rfl rfl id k (inB id 1 7) (kvB k) w (RK := fun W us V => mKeep.own V (fun q => W.heap.size ≤ q ∧ q < V.heap.size) us (keX k ss)) (isIdR id) (fun W hb => iKeep_any k W ⟨hs.hg, hs.hh⟩ (h.r.later hb)) ?_ ?_ ?_
  · intro _ _ W hb
    refine (ownKeep_c k ss W (h.later hb) hs).mono ?_
    rintro e V ⟨us, rfl, ho, hbl⟩
    exact ⟨us, rfl, mKeep.len ho, mKeep.one ho, hbl, ho⟩
  · intro hn V hb
    refine ⟨svN, rfl, ?_, hb⟩
    unfold svB
    rw [if_neg (by rw [hn]; decide)]
    exact svN_own
  · intro hn W V U us p hb ho hbl hp hpW hg _
    have s1 := hb.size
    have s2 := hbl.size
    have s3 := hg.size
    refine ⟨_, rfl, ?_, (hb.trans (hbl.mono hb.size)).grown hg (Nat.le_trans hb.size hbl.size) (fun q hq => by have := Option.some.inj hq; omega)⟩
    unfold svB
    rw [if_pos hn]
    exact sv_own (mKeep.wid (mKeep.far ho (fun q h => h.1) hg hpW) (fun q h => ⟨by omega, by omega⟩))
theorem sRestart_c (id : Int) (k : Kv) (ss : List Int) (w : World) (D : Nat) (h : KvO w D k ss) (hs : KvS k) :
    Calls Try.prog 19 #[.int .i64 id, k.v] w fun e V => ∃ us, e = .returned (vA us) ∧ cServer.rep V w.heap.size us (svB id k ss) ∧ Below w.heap.size w V := by
  refine calls_of_wp Try.func19 rfl ?_
  refine sRestart_walk rfl rfl id k (inB id 1 7) (kvB k) w (RK := fun W us V => cKeep.rep V W.heap.size us (keX k ss)) (fun W => l1In14 id 1 7 _ rfl W) (fun W hb => sKeep_any k W ⟨hs.hg, hs.hh, hs.hl⟩ (h.f.r.later hb) (fun e he => (h.oe e he).2)) ?_ ?_ ?_
  · intro _ hk W hb
    obtain ⟨h1, h2, h3, h4, h5⟩ := kv_small hk
    have hW := h.later hb
    refine (l13Copy_any k ss W ⟨hW.f.r, hW.hs, hW.ot, hW.os.row, fun e he => ⟨⟨(hW.oe e he).1.1, (hW.oe e he).1.2.1, (hW.oe e he).1.2.2.row⟩, en_400 (h5 e he) (hW.oe e he).1.1, (hW.oe e he).1.2.2.caps.2.2.2⟩, hW.og.caps.2.2.2, hW.oh.caps.2.2.2, hW.os.caps.2.2.2⟩ ⟨by have := hW.hg; omega, by have := hW.hh; omega, h3, by omega⟩).mono ?_
    rintro e V ⟨⟨k', rfl, e1, e2, e3, e4, e5, e6, e7, e8, e9, e10, e11, hw⟩, hbl⟩
    have c1 := hW.hg
    have c2 := hW.hh
    have c3 := hW.hs
    have c4 := hW.hl
    have d1 := hw.hg
    have d2 := hw.hh
    have d3 := hw.hs
    have d4 := hw.hl
    have hx : keX k' ss = keX k ss := by
      unfold keX
      rw [e1, e2, e3, e4, enX_key e9, e10, e11]
    have hr := kw_rep hw ⟨by omega, by omega, by omega, by omega⟩
    rw [hx] at hr
    exact ⟨k'.cells, rfl, rfl, cKeep.one hr, hbl, hr⟩
  · intro hn V hb
    refine ⟨svN, rfl, ?_, hb⟩
    unfold svB
    rw [if_neg (by rw [hn]; decide)]
    exact mServer.rep (svN_own (W := V) (F := fun _ => False)) (fun _ h => h.elim)
  · intro hn W V U us p hb ho hbl hp hpW hg _
    refine ⟨_, rfl, ?_, (hb.trans (hbl.mono hb.size)).grown hg (Nat.le_trans hb.size hbl.size) (fun q hq => by have := Option.some.inj hq; omega)⟩
    unfold svB
    rw [if_pos hn]
    exact sv_rep (cKeep.low (cKeep.frm ho (Fr.row hg hpW)) hb.size)

/-- What stands in the slots, by number. -/
structure Env (N : Nat) (E : Nat → Option Value) (a : Act) : Prop where
  get : ∀ t v, E t = some v → a.eval (.tmp t) = v
  df : a.defers = []
  sz : a.tmps.size = N
def upd (E : Nat → Option Value) (t : Nat) (v : Value) : Nat → Option Value := fun u => if u = t then some v else E u
theorem Env.put {N t : Nat} {E : Nat → Option Value} {a : Act} (S : Env N E a) (ht : t < N) (v : Value) : Env N (upd E t v) (a.put (some t) v) := by
  refine ⟨fun u x h => ?_, put_df.trans S.df, put_sz.trans S.sz⟩
  unfold upd at h
  by_cases e : u = t
  · rw [if_pos e] at h
    subst e
    obtain rfl := Option.some.inj h
    exact put_eq (by rw [S.sz]; exact ht)
  · rw [if_neg e] at h
    exact (put_ne e).trans (S.get u x h)
theorem env2 {P : Program} {fn : Func} {C : Code} {Q : Exit → Act → World → Prop} {w : World} {N : Nat} {x y : Value} (hN : fn.ntmps = N) (h2 : 2 ≤ N) (h : ∀ a, Env N (upd (upd (fun _ => none) 0 x) 1 y) a → Code.wp P C Q a w) : Code.wp P C Q ⟨#[x, y] ++ Array.replicate (fn.ntmps - (#[x, y] : Array Value).size) undef, []⟩ w := by
  refine h _ ⟨fun t v ht => ?_, rfl, by rw [frame2_z (by omega), hN]⟩
  unfold upd at ht
  by_cases e : t = 1
  · rw [if_pos e] at ht
    subst e
    obtain rfl := Option.some.inj ht
    exact frame2_1
  · rw [if_neg e] at ht
    by_cases e : t = 0
    · rw [if_pos e] at ht
      subst e
      obtain rfl := Option.some.inj ht
      exact frame2_0
    · rw [if_neg e] at ht
      cases ht

end Go.Proofs.Ytmfbmnpfgbenmaa

/-
  Kinds that own their memory.
-/
namespace Go.Proofs.Ytmfbmnpfgbenmaa
open Go.ChangeShapes Go.WideShapes Go.RowKit

def mPoolS := mNo cPool
def mBlockS := mNo cBlock
def mPlan := mTwo (mTwo mNil mPoolS) mBlockS
def mLeaseS := mNo cLease
def mBook := mTwo (mTwo (mTwo mNil mLeaseS) mInt) mInt
def mSessionS := mNo cSession
def mDesk := mTwo (mTwo mNil mSessionS) mInt
def mState := mTwo (mTwo (mTwo (mTwo mNil mPlan) mBook) mDesk) mInt
def mFile := mTwo (mTwo mNil mByteS) mInt
def mReplica := mTwo (mTwo (mTwo (mTwo (mTwo mNil mServer) mState) mInt) mFile) mBool
def mReplicaS := mRow mReplica
def mMsgS := mNo cMsg
def mIntA2S := mNo cIntA2
def mStringS := mNo cStr
def mCluster := mTwo (mTwo (mTwo (mTwo (mTwo (mTwo (mTwo mNil mReplicaS) mGroup) mMsgS) mIntA2S) mEntryS) mStringS) mBool

end Go.Proofs.Ytmfbmnpfgbenmaa

/-
  What both KeepNew make of a group without old members; both StateNew.
-/
namespace Go.Proofs.Ytmfbmnpfgbenmaa
open Go.ChangeShapes Go.WideShapes Go.ChangeAt Go.RowKit Go.Joins Go.Deep

/-- A new Keep of one's own. -/
structure Kn (W : World) (D : Nat) (k : Kv) (ps : List Int) : Prop where
  T : k.T = 0
  V : k.V = 0
  B : k.B = 0
  E : k.E = 0
  ps : k.ps = ps
  bs : k.bs = []
  es : k.es = []
  sn : k.sn = 0
  o : KvO W D k []
  s : KvS k
def knX (ps : List Int) : KeA := (((((((((), 0), 0), 0), 0), (((), ps), []))), []), [])
theorem Kn.x {W : World} {D : Nat} {k : Kv} {ps : List Int} (h : Kn W D k ps) : keX k [] = knX ps := by
  unfold keX knX
  rw [h.T, h.V, h.B, h.E, h.ps, h.bs, h.es]
  rfl
theorem Kn.ok {W : World} {D : Nat} {k : Kv} {ps : List Int} (h : Kn W D k ps) (hr : grB ps [] = true) : kvB k = true := by
  have hln : k.ln = 0 := by rw [h.o.hl, h.es]; rfl
  unfold kvB baB loB
  rw [hln, h.T, h.V, h.B, h.E, h.ps, h.bs, h.es, h.sn, hr]
  decide
theorem Kn.later {W V : World} {D : Nat} {k : Kv} {ps : List Int} (h : Kn W D k ps) (hb : Below W.heap.size W V) : Kn V D k ps := ⟨h.T, h.V, h.B, h.E, h.ps, h.bs, h.es, h.sn, h.o.later hb, h.s⟩
/-- What Restart makes of it. -/
theorem svB_kn {W : World} {D : Nat} {k : Kv} {ps : List Int} {id : Int} (h : Kn W D k ps) (hr : grB ps [] = true) (hi : inB id 1 7 = true) : svB id k [] = svY id (knX ps) 0 := by
  unfold svB
  rw [hi, h.ok hr, h.x, h.B]
  rfl
/-- Its memory, when it has no second row. -/
theorem kn_own {W : World} {D : Nat} {ps : List Int} {ga ha sa la : Option Addr} {gc hc sc lc : Nat} (h : OwnG KI 3 W D (.slice ga ps.length gc) ps) (hl : ps.length ≤ 1048576) :
    mKeep.own W (fun q => D ≤ q ∧ q < W.heap.size) [.int .i64 0, .int .i64 0, .int .i64 0, .int .i64 0, .slice ga ps.length gc, .slice ha 0 hc, .slice sa 0 sc, .slice la 0 lc] (knX ps) := by
  have no : ∀ q : Nat, (D ≤ q ∧ q < W.heap.size) → ¬ (fun _ : Nat => False) q := fun _ _ h => h
  have s1 : ∀ q : Nat, (D ≤ q ∧ q < W.heap.size) → (D ≤ q ∧ q < W.heap.size) := fun _ h => h
  have s0 : ∀ q : Nat, False → (D ≤ q ∧ q < W.heap.size) := fun _ h => h.elim
  exact ⟨[.int .i64 0, .int .i64 0, .int .i64 0, .int .i64 0, .slice ga ps.length gc, .slice ha 0 hc, .slice sa 0 sc], [.slice la 0 lc], (fun q => D ≤ q ∧ q < W.heap.size), fun _ => False, rfl, s1, s0, no, ⟨[.int .i64 0, .int .i64 0, .int .i64 0, .int .i64 0, .slice ga ps.length gc, .slice ha 0 hc], [.slice sa 0 sc], (fun q => D ≤ q ∧ q < W.heap.size), fun _ => False, rfl, s1, s0, no, ⟨[.int .i64 0, .int .i64 0, .int .i64 0, .int .i64 0], [.slice ga ps.length gc, .slice ha 0 hc], fun _ => False, (fun q => D ≤ q ∧ q < W.heap.size), rfl, s0, s1, fun _ h => h.elim, ⟨[.int .i64 0, .int .i64 0, .int .i64 0], [.int .i64 0], fun _ => False, fun _ => False, rfl, fun _ h => h, fun _ h => h, fun _ h => h.elim, ⟨[.int .i64 0, .int .i64 0], [.int .i64 0], fun _ => False, fun _ => False, rfl, fun _ h => h, fun _ h => h, fun _ h => h.elim, ⟨[.int .i64 0], [.int .i64 0], fun _ => False, fun _ => False, rfl, fun _ h => h, fun _ h => h, fun _ h => h.elim, ⟨[], [.int .i64 0], fun _ => False, fun _ => False, rfl, fun _ h => h, fun _ h => h, fun _ h => h.elim, rfl, rfl⟩, rfl⟩, rfl⟩, rfl⟩, ⟨[.slice ga ps.length gc], [.slice ha 0 hc], (fun q => D ≤ q ∧ q < W.heap.size), fun _ => False, rfl, s1, s0, no, ⟨[], [.slice ga ps.length gc], fun _ => False, (fun q => D ≤ q ∧ q < W.heap.size), rfl, s0, s1, fun _ h => h.elim, rfl, own_int h (by omega) _ (fun q hq => h.lt q hq)⟩, .inl ⟨rfl, ha, hc, rfl⟩⟩⟩, .inl ⟨rfl, sa, sc, rfl⟩⟩, .inl ⟨rfl, la, lc, rfl⟩⟩

/-- A cluster's first group. -/
structure Gf (W : World) (ap : Option Addr) (np cp : Nat) (ab : Option Addr) (cb : Nat) (ps : List Int) : Prop where
  n : np = ps.length
  r : RowG KI W ap ps
  l : np ≤ 1048576
  p : ap = none → cp = 0
  b : ab = none → cb = 0
theorem Gf.later {W V : World} {ap ab : Option Addr} {np cp cb : Nat} {ps : List Int} (h : Gf W ap np cp ab cb ps) (hb : Below W.heap.size W V) : Gf V ap np cp ab cb ps := ⟨h.n, h.r.later hb, h.l, h.p, h.b⟩
theorem kn_of {W : World} {D : Nat} {a b : Option Addr} {np c d : Nat} {ps : List Int} (hn : np = ps.length) (hl : np ≤ 1048576) (o1 : OwnG KI 3 W D (.slice a np c) ps) (o2 : OwnG KI 3 W D (.slice b 0 d) []) :
    Kn W D ⟨0, 0, 0, 0, a, np, c, b, 0, d, none, 0, 0, none, 0, 0, ps, [], []⟩ ps :=
  ⟨rfl, rfl, rfl, rfl, rfl, rfl, rfl, rfl, ⟨hn, rfl, rfl, rfl, fun x hx => (by cases hx), o1, o2, own_noneG _ _ _ _, own_noneG _ _ _ _, fun e he => (by cases he)⟩, ⟨hl, by simp, by simp, by simp, fun e he => (by cases he)⟩⟩
theorem iKn_c (ap ab : Option Addr) (np cp cb : Nat) (ps : List Int) (w : World) (h : Gf w ap np cp ab cb ps) (hr : grB ps [] = true) :
    Calls Try.prog 27 #[.agg #[.slice ap np cp, .slice ab 0 cb]] w fun e V => ∃ k, e = .returned (vA (Kv.cells k)) ∧ Kn V w.heap.size k ps ∧ Below w.heap.size w V := by
  refine (iKnA_yes ap np cp ab 0 cb ps [] w h.n rfl h.r (RowG.nil _ _ _) h.l (by omega) hr).mono ?_
  rintro e V ⟨a, c, b, d, rfl, o1, o2, _, hb⟩
  exact ⟨_, rfl, kn_of h.n h.l o1 o2, hb⟩
theorem sKn_c (ap ab : Option Addr) (np cp cb : Nat) (ps : List Int) (w : World) (h : Gf w ap np cp ab cb ps) (hr : grB ps [] = true) :
    Calls Try.prog 20 #[.agg #[.slice ap np cp, .slice ab 0 cb]] w fun e V => ∃ k, e = .returned (vA (Kv.cells k)) ∧ Kn V w.heap.size k ps ∧ Below w.heap.size w V := by
  refine (sKnA_yes ap np cp ab 0 cb ps [] w h.n rfl h.r (RowG.nil _ _ _) h.p h.b h.l (by omega) hr).mono ?_
  rintro e V ⟨a, c, b, d, rfl, o1, o2, _, hb⟩
  exact ⟨_, rfl, kn_of h.n h.l o1 o2, hb⟩

/-- Both Restart of a new Keep. -/
theorem iRestart_n (id : Int) (k : Kv) (ps : List Int) (w : World) (D : Nat) (h : Kn w D k ps) (hr : grB ps [] = true) (hi : inB id 1 7 = true) :
    Calls Try.prog 26 #[.int .i64 id, vA k.cells] w fun e V => ∃ us, e = .returned (vA us) ∧ mServer.own V (fun q => w.heap.size ≤ q ∧ q < V.heap.size) us (svY id (knX ps) 0) ∧ Below w.heap.size w V := by
  have e := svB_kn h hr hi
  rw [← e]
  exact iRestart_c id k [] w h.o.f h.s
theorem sRestart_n (id : Int) (k : Kv) (ps : List Int) (w : World) (D : Nat) (h : Kn w D k ps) (hr : grB ps [] = true) (hi : inB id 1 7 = true) :
    Calls Try.prog 19 #[.int .i64 id, vA k.cells] w fun e V => ∃ us, e = .returned (vA us) ∧ mServer.own V (fun q => w.heap.size ≤ q ∧ q < V.heap.size) us (svY id (knX ps) 0) ∧ Below w.heap.size w V := by
  have hk := h.ok hr
  have hs := h.s
  refine calls_of_wp Try.func19 rfl ?_
  refine sRestart_walk rfl rfl id k (inB id 1 7) (kvB k) w (RK := fun W us V => mKeep.own V (fun q => W.heap.size ≤ q ∧ q < V.heap.size) us (knX ps)) (fun W => l1In14 id 1 7 _ rfl W) (fun W hb => sKeep_any k W ⟨hs.hg, hs.hh, hs.hl⟩ (h.o.f.r.later hb) (fun e he => (h.o.oe e he).2)) ?_ ?_ ?_
  · intro _ hk W hb
    obtain ⟨h1, h2, h3, h4, h5⟩ := kv_small hk
    have hW := h.o.later hb
    refine (l13Copy_any k [] W ⟨hW.f.r, hW.hs, hW.ot, hW.os.row, fun e he => ⟨⟨(hW.oe e he).1.1, (hW.oe e he).1.2.1, (hW.oe e he).1.2.2.row⟩, en_400 (h5 e he) (hW.oe e he).1.1, (hW.oe e he).1.2.2.caps.2.2.2⟩, hW.og.caps.2.2.2, hW.oh.caps.2.2.2, hW.os.caps.2.2.2⟩ ⟨by have := hW.hg; omega, by have := hW.hh; omega, h3, by omega⟩).mono ?_
    rintro e V ⟨⟨k', rfl, e1, e2, e3, e4, e5, e6, e7, e8, e9, e10, e11, hw⟩, hbl⟩
    have c1 := hW.hg
    have c2 := hW.hh
    have c4 := hW.hl
    have hq := h.s.hg
    obtain ⟨p1, p2, p3, p4, p5, p6, p7, p8, _, _⟩ := h
    rw [p6] at c2
    rw [p7] at c4
    rw [p5] at c1
    have g1 := hw.og
    obtain ⟨T, V', B, E, ga, gn, gc, ha, hn, hc, sa, sn, sc, la, ln, lc, ps', bs', es'⟩ := k'
    simp only at e1 e2 e3 e4 e5 e6 e7 e8 e10 e11 g1
    rw [p1] at e1
    rw [p2] at e2
    rw [p3] at e3
    rw [p4] at e4
    rw [c1] at e5
    rw [c2] at e6
    rw [p8] at e7
    rw [c4] at e8
    rw [p5] at e10
    have e6' : hn = 0 := e6
    have e8' : ln = 0 := e8
    subst e1 e2 e3 e4 e5 e6' e7 e8' e10
    have ho := kn_own (ha := ha) (hc := hc) (sa := sa) (sc := sc) (la := la) (lc := lc) g1 (by omega)
    exact ⟨_, rfl, rfl, mKeep.one ho, hbl, ho⟩
  · intro hn
    rw [hi, hk] at hn
    cases hn
  · intro hn W V U us p hb ho hbl hp hpW hg _
    have s1 := hb.size
    have s2 := hbl.size
    have s3 := hg.size
    refine ⟨_, rfl, ?_, (hb.trans (hbl.mono hb.size)).grown hg (Nat.le_trans hb.size hbl.size) (fun q hq => by have := Option.some.inj hq; omega)⟩
    rw [h.B]
    exact sv_own (mKeep.wid (mKeep.far ho (fun q h => h.1) hg hpW) (fun q h => ⟨by omega, by omega⟩))

end Go.Proofs.Ytmfbmnpfgbenmaa

/-
  Both StateNew; a replica of its parts.
-/
namespace Go.Proofs.Ytmfbmnpfgbenmaa
open Go.ChangeShapes Go.WideShapes Go.ChangeAt Go.RowKit Go.Joins Go.Deep

def stC : List Value := [.slice none 0 0, .slice none 0 0, .slice none 0 0, .int .i64 0, .int .i64 0, .slice none 0 0, .int .i64 1, .int .i64 0]
def stZ : List Value := [.slice none 0 0, .slice none 0 0, .slice none 0 0, .int .i64 0, .int .i64 0, .slice none 0 0, .int .i64 0, .int .i64 0]
theorem one_stC : One stC := by
  intro u hu
  simp only [stC, List.mem_cons, List.not_mem_nil, or_false] at hu
  rcases hu with rfl | rfl | rfl | rfl | rfl | rfl | rfl | rfl <;> rfl
abbrev MwT {α : Type} (_ : Mw α) : Type := α
def stX : MwT mState := ((((((), (((), []), [])), ((((), []), 0), 0)), (((), []), 1)), 0))
theorem st_own {W : World} : mState.own W (fun _ => False) stC stX := by
  have s : ∀ q : Nat, False → False := fun _ h => h
  have no : ∀ q : Nat, False → ¬ False := fun _ h => h.elim
  exact ⟨[.slice none 0 0, .slice none 0 0, .slice none 0 0, .int .i64 0, .int .i64 0, .slice none 0 0, .int .i64 1], [.int .i64 0], fun _ => False, fun _ => False, rfl, s, s, no, ⟨[.slice none 0 0, .slice none 0 0, .slice none 0 0, .int .i64 0, .int .i64 0], [.slice none 0 0, .int .i64 1], fun _ => False, fun _ => False, rfl, s, s, no, ⟨[.slice none 0 0, .slice none 0 0], [.slice none 0 0, .int .i64 0, .int .i64 0], fun _ => False, fun _ => False, rfl, s, s, no, ⟨[], [.slice none 0 0, .slice none 0 0], fun _ => False, fun _ => False, rfl, s, s, no, rfl, ⟨[.slice none 0 0], [.slice none 0 0], fun _ => False, fun _ => False, rfl, s, s, no, ⟨[], [.slice none 0 0], fun _ => False, fun _ => False, rfl, s, s, no, rfl, ⟨rfl, none, 0, rfl⟩⟩, ⟨rfl, none, 0, rfl⟩⟩⟩, ⟨[.slice none 0 0, .int .i64 0], [.int .i64 0], fun _ => False, fun _ => False, rfl, s, s, no, ⟨[.slice none 0 0], [.int .i64 0], fun _ => False, fun _ => False, rfl, s, s, no, ⟨[], [.slice none 0 0], fun _ => False, fun _ => False, rfl, s, s, no, rfl, ⟨rfl, none, 0, rfl⟩⟩, rfl⟩, rfl⟩⟩, ⟨[.slice none 0 0], [.int .i64 1], fun _ => False, fun _ => False, rfl, s, s, no, ⟨[], [.slice none 0 0], fun _ => False, fun _ => False, rfl, s, s, no, rfl, ⟨rfl, none, 0, rfl⟩⟩, rfl⟩⟩, rfl⟩
def dkC : List Value := [.slice none 0 0, .int .i64 1]
theorem dk_built : Try.prog.built 69 [(1, .int .i64 1)] = some dkC.toArray := by kernel_rfl
theorem st_built : Try.prog.built 71 [(2, vA dkC)] = some stC.toArray := by kernel_rfl

section
variable {t0 t1 t2 t3 : TypeId} {s0 s1 s2 s3 : String} {f0 f1 f2 f3 : Array Edge} {r0 r1 : Nat}
theorem stateNew_walk {fn : Func} (hN : fn.ntmps = 3) (hres : fn.results = #[.cell 0 71]) (w : World) :
    Code.wp Try.prog ((Code.region r0 #[⟨some 0, .alloc 71, t0, s0, f0, none⟩] false).seq ((Code.region r1 #[⟨some 1, .build 69 #[(1, .const (.int .i64 1))], t1, s1, f1, none⟩, ⟨some 2, .build 71 #[(2, .tmp 1)], t2, s2, f2, none⟩, ⟨none, .store 71 (.tmp 0) (.tmp 2), t3, s3, f3, none⟩] false).seq Code.ret))
      (bodyPost Try.prog fn fun e V => e = .returned (vA stC) ∧ Below w.heap.size w V) (⟨#[] ++ Array.replicate (fn.ntmps - (#[] : Array Value).size) undef, []⟩ : Act) w := by
  have hsz : (⟨#[] ++ Array.replicate (fn.ntmps - (#[] : Array Value).size) undef, []⟩ : Act).tmps.size = 3 := by rw [hN]; rfl
  have hdf : (⟨#[] ++ Array.replicate (fn.ntmps - (#[] : Array Value).size) undef, []⟩ : Act).defers = [] := rfl
  generalize (⟨#[] ++ Array.replicate (fn.ntmps - (#[] : Array Value).size) undef, []⟩ : Act) = a at *
  refine wp_seq (wp_region_list ?_)
  refine wpl_alloc (zs := stZ) (z := .agg stZ.toArray) (by kernel_rfl) rfl ?_
  intro X B l n
  have e0 : (a.put (some 0) (.pointer (some ⟨w.heap.size, 0, none⟩))).eval (.tmp 0) = .pointer (some ⟨w.heap.size, 0, none⟩) := put_eq (by omega)
  have z0 : (a.put (some 0) (.pointer (some ⟨w.heap.size, 0, none⟩))).tmps.size = 3 := put_sz.trans hsz
  have d0 : (a.put (some 0) (.pointer (some ⟨w.heap.size, 0, none⟩))).defers = [] := put_df.trans hdf
  generalize (a.put (some 0) (.pointer (some ⟨w.heap.size, 0, none⟩))) = b at e0 z0 d0 ⊢
  refine wpl_nil (wp_seq (wp_region_list ?_))
  refine wpl_val (ex_build (us := dkC) (by simpa [eval_c] using dk_built) _) ?_
  have e1 : (b.put (some 1) (vA dkC)).eval (.tmp 1) = vA dkC := put_eq (by omega)
  refine wpl_val (ex_build (us := stC) ?_ _) ?_
  · simp only [List.map_toArray, List.map_cons, List.map_nil]
    rw [show ((b.put (some 1) (.agg dkC.toArray)).eval (.tmp 1)) = vA dkC from e1]
    exact st_built
  have e2 : ((b.put (some 1) (.agg dkC.toArray)).put (some 2) (.agg stC.toArray)).eval (.tmp 0) = .pointer (some ⟨w.heap.size, 0, none⟩) := (put_ne (by omega)).trans ((put_ne (by omega)).trans e0)
  have d2 : ((b.put (some 1) (.agg dkC.toArray)).put (some 2) (.agg stC.toArray)).defers = [] := put_df.trans (put_df.trans d0)
  refine wpl_store (off := 0) (n := 8) rfl 71 (.tmp 0) (.tmp 2) rfl e2 (put_eq (by rw [put_sz]; omega)) stC [] stZ [] rfl one_stC (by kernel_rfl) rfl (by rw [List.append_nil]; exact B) rfl rfl ?_
  intro U hU hg _
  rw [put_none]
  refine wpl_nil (wp_ret ?_)
  rw [List.append_nil] at hU
  generalize ((b.put (some 1) (.agg dkC.toArray)).put (some 2) (.agg stC.toArray)) = c at e2 d2 ⊢
  refine bodyPost_ret (v := .agg stC.toArray) ?_ d2 ⟨rfl, l.grown hg l.size (fun q hq => by have := Option.some.inj hq; omega)⟩
  have hl : (loadVar 71 ⟨w.heap.size, 0, none⟩).run Try.prog U = .ok (.agg stC.toArray) U := run_loadE (P := Try.prog) U (⟨by kernel_rfl, by kernel_rfl⟩ : Agg Try.prog 71 8) (Box.seg (us := []) (ts := []) (by simpa using hU) rfl)
  have e3 : c.tmps.getD 0 undef = .pointer (some ⟨w.heap.size, 0, none⟩) := e2
  have e4 : c.tmps[0]?.getD undef = .pointer (some ⟨w.heap.size, 0, none⟩) := by simpa using e3
  simp [results, hres, e4, asAddr, hl]
end
theorem iStateNew_c (w : World) : Calls Try.prog 28 #[] w fun e V => e = .returned (vA stC) ∧ Below w.heap.size w V := by
  refine calls_of_wp Try.func28 rfl ?_
  exact stateNew_walk rfl rfl w
theorem sStateNew_c (w : World) : Calls Try.prog 21 #[] w fun e V => e = .returned (vA stC) ∧ Below w.heap.size w V := by
  refine calls_of_wp Try.func21 rfl ?_
  exact stateNew_walk rfl rfl w

/-- A replica's cells, its server's given. -/
def rpC (us : List Value) : List Value := us ++ (stC ++ [.int .i64 0, .slice none 0 0, .int .i64 0, .bool true])
def rpX (x : SvA) : MwT mReplica := ((((((), x), stX), 0), (((), []), 0)), true)
theorem rp_own {W : World} {F : Nat → Prop} {us : List Value} {x : SvA} (h : mServer.own W F us x) : mReplica.own W F (rpC us) (rpX x) := by
  have no : ∀ q : Nat, F q → ¬ (fun _ : Nat => False) q := fun _ _ h => h
  have s1 : ∀ q : Nat, F q → F q := fun _ h => h
  have s0 : ∀ q : Nat, False → F q := fun _ h => h.elim
  have s : ∀ q : Nat, False → False := fun _ h => h
  have n0 : ∀ q : Nat, False → ¬ False := fun _ h => h.elim
  have e : rpC us = ((((([] ++ us) ++ stC) ++ [.int .i64 0]) ++ [.slice none 0 0, .int .i64 0]) ++ [.bool true]) := by simp [rpC]
  rw [e]
  exact ⟨_, [.bool true], F, fun _ => False, rfl, s1, s0, no, ⟨_, [.slice none 0 0, .int .i64 0], F, fun _ => False, rfl, s1, s0, no, ⟨_, [.int .i64 0], F, fun _ => False, rfl, s1, s0, no, ⟨_, stC, F, fun _ => False, rfl, s1, s0, no, ⟨[], us, fun _ => False, F, rfl, s0, s1, fun _ h => h.elim, rfl, h⟩, st_own⟩, rfl⟩, ⟨[.slice none 0 0], [.int .i64 0], fun _ => False, fun _ => False, rfl, s, s, n0, ⟨[], [.slice none 0 0], fun _ => False, fun _ => False, rfl, s, s, n0, rfl, .inl ⟨rfl, none, 0, rfl⟩⟩, rfl⟩⟩, rfl⟩
set_option maxRecDepth 10000 in
theorem rp_built31 (u0 u1 u2 u3 u4 u5 u6 u7 u8 u9 u10 u11 u12 u13 u14 u15 u16 u17 u18 u19 u20 u21 u22 u23 u24 u25 u26 u27 u28 u29 u30 : Value) : Try.prog.built 76 [(0, vA [u0, u1, u2, u3, u4, u5, u6, u7, u8, u9, u10, u11, u12, u13, u14, u15, u16, u17, u18, u19, u20, u21, u22, u23, u24, u25, u26, u27, u28, u29, u30]), (1, vA stC), (4, .bool true)] = some (rpC [u0, u1, u2, u3, u4, u5, u6, u7, u8, u9, u10, u11, u12, u13, u14, u15, u16, u17, u18, u19, u20, u21, u22, u23, u24, u25, u26, u27, u28, u29, u30]).toArray := by kernel_rfl
theorem rp_built (us : List Value) (h : us.length = 31) : Try.prog.built 76 [(0, vA us), (1, vA stC), (4, .bool true)] = some (rpC us).toArray :=
  match us, h with
  | [u0, u1, u2, u3, u4, u5, u6, u7, u8, u9, u10, u11, u12, u13, u14, u15, u16, u17, u18, u19, u20, u21, u22, u23, u24, u25, u26, u27, u28, u29, u30], _ => rp_built31 u0 u1 u2 u3 u4 u5 u6 u7 u8 u9 u10 u11 u12 u13 u14 u15 u16 u17 u18 u19 u20 u21 u22 u23 u24 u25 u26 u27 u28 u29 u30

end Go.Proofs.Ytmfbmnpfgbenmaa

/-
  A row of replicas in the making.
-/
namespace Go.Proofs.Ytmfbmnpfgbenmaa
open Go.ChangeShapes Go.WideShapes Go.ChangeAt Go.RowKit Go.Joins Go.Deep

/-- A replica's cells. -/
def RpC := { us : List Value // us.length = 43 ∧ One us }
def KRp : Kd RpC := ⟨43, fun x => x.1, fun x => x.2.1, fun x => x.2.2⟩
theorem rp_one {us : List Value} (h : One us) : One (rpC us) := one_app h (one_app one_stC (one_app (us := [.int .i64 0]) (one1 rfl) (one_app (us := [.slice none 0 0]) (one1 rfl) (one_app (us := [.int .i64 0]) (one1 rfl) (one1 rfl)))))
theorem rp_len {us : List Value} (h : us.length = 31) : (rpC us).length = 43 := by
  unfold rpC
  rw [List.length_append, h]
  rfl
def rpK (us : List Value) (h : us.length = 31) (g : One us) : RpC := ⟨rpC us, rp_len h, rp_one g⟩
theorem gflat_rp : ∀ rs : List RpC, gflat KRp rs = (rs.map (·.1)).flatten
  | [] => rfl
  | r :: t => by
    show r.1 ++ gflat KRp t = r.1 ++ (t.map (·.1)).flatten
    rw [gflat_rp t]
def rpZ : List Value := svN ++ (stZ ++ [.int .i64 0, .slice none 0 0, .int .i64 0, .bool false])
set_option maxRecDepth 10000 in
theorem Try.tyRp : GTy KRp (.agg rpZ.toArray) 504 Try.prog 23 76 := ⟨by kernel_rfl, by kernel_rfl, rfl, by omega⟩

section
variable {P : Program} {ops : Array Oper} {Q : Exit → Act → World → Prop} {S : World → Prop} {fuel : Nat} {listed : Array Bool} {a : Act} {w : World}
/-- An operation that alone may come. -/
theorem dr_do (i d : Nat) {op : Op} {ty : TypeId} {ps : String} {af : Array Edge} (hi : ops[i]? = some (⟨some d, op, ty, ps, af, none⟩ : Oper)) (hr : Region.ready .any ops listed = [i]) {v : Value} {V : World}
    (he : (execOp a.eval (⟨some d, op, ty, ps, af, none⟩ : Oper)).run P w = .ok (.value v) V)
    (k : S V ∧ wpAnyH P .any ops Q S fuel (listed.setIfInBounds i true) (a.put (some d) v) V) : wpAnyH P .any ops Q S (fuel + 1) listed a w := by
  refine wpAnyH_ready hr (by simp) (AllReadyH.cons hi (fun K hK => ?_) AllReadyH.nil)
  rw [if_pos (by simp [Region.wanted])]
  unfold Oper.wp
  rw [he]
  exact hK.out _ _ k.1 (fun _ => k.2)
end

set_option maxRecDepth 10000 in
theorem rp_fill31 (u0 u1 u2 u3 u4 u5 u6 u7 u8 u9 u10 u11 u12 u13 u14 u15 u16 u17 u18 u19 u20 u21 u22 u23 u24 u25 u26 u27 u28 u29 u30 : Value) :
    Instr.fill (fun i => some (i * 43, 43)) ((Array.range (1 * 43)).map (rpZ.toArray[· % 43]!)) [(0, vA (rpC [u0, u1, u2, u3, u4, u5, u6, u7, u8, u9, u10, u11, u12, u13, u14, u15, u16, u17, u18, u19, u20, u21, u22, u23, u24, u25, u26, u27, u28, u29, u30]))] = some (rpC [u0, u1, u2, u3, u4, u5, u6, u7, u8, u9, u10, u11, u12, u13, u14, u15, u16, u17, u18, u19, u20, u21, u22, u23, u24, u25, u26, u27, u28, u29, u30]).toArray := by kernel_rfl
theorem rp_fill (us : List Value) (h : us.length = 31) : Instr.fill (fun i => some (i * 43, 43)) ((Array.range (1 * 43)).map (rpZ.toArray[· % 43]!)) [(0, vA (rpC us))] = some (rpC us).toArray :=
  match us, h with
  | [u0, u1, u2, u3, u4, u5, u6, u7, u8, u9, u10, u11, u12, u13, u14, u15, u16, u17, u18, u19, u20, u21, u22, u23, u24, u25, u26, u27, u28, u29, u30], _ => rp_fill31 u0 u1 u2 u3 u4 u5 u6 u7 u8 u9 u10 u11 u12 u13 u14 u15 u16 u17 u18 u19 u20 u21 u22 u23 u24 u25 u26 u27 u28 u29 u30
theorem rp_slice (us : List Value) (h : us.length = 31) (W : World) : (Instr.buildSlice 23 1 #[(0, vA (rpC us))]).run Try.prog W = .ok (.slice (some ⟨W.heap.size, 0, none⟩) 1 1) (W.alloc (.cells (rpC us).toArray 76)) := by
  obtain ⟨t1, t2, t3, t4⟩ := Try.tyRp
  obtain ⟨ie, hi, hz0, hz1, hz2⟩ := info_parts t2
  have hz1' : ie.size = 43 := hz1
  refine run_buildSlice W _ _ 1 _ _ ie _ t1 hi hz0 (by rw [hz1']; decide) (by rw [hz1']; decide) ?_
  rw [hz1']
  exact rp_fill us h

/-- The row so far. -/
structure Rw (W : World) (D : Nat) (a : Option Addr) (k c : Nat) (X : Nat → SvA) (rs : List RpC) (G : Nat → Nat → Prop) : Prop where
  len : rs.length = k
  own : OwnG KRp 76 W D (.slice a k c) rs
  el : ∀ j r, rs[j]? = some r → mReplica.own W (G j) r.1 (rpX (X j))
  lo : ∀ j q, G j q → D ≤ q ∧ q < W.heap.size ∧ ¬ ob (.slice a k c) q
  dj : ∀ i j q, G i q → G j q → i = j
theorem Rw.nil (W : World) (D : Nat) (X : Nat → SvA) : Rw W D none 0 0 X [] (fun _ _ => False) := ⟨rfl, own_noneG _ _ _ _, fun j r h => (by simp at h), fun j q h => h.elim, fun i j q h => h.elim⟩
theorem Rw.later {W V : World} {D : Nat} {a : Option Addr} {k c : Nat} {X : Nat → SvA} {rs : List RpC} {G : Nat → Nat → Prop} (h : Rw W D a k c X rs G) (hb : Below W.heap.size W V) : Rw V D a k c X rs G :=
  ⟨h.len, h.own.later hb, fun j r hr => mReplica.lat (h.el j r hr) hb, fun j q hq => have g := h.lo j q hq; ⟨g.1, Nat.lt_of_lt_of_le g.2.1 hb.size, g.2.2⟩, h.dj⟩
theorem Rw.box {W V : World} {D p : Nat} {a : Option Addr} {k c : Nat} {X : Nat → SvA} {rs : List RpC} {G : Nat → Nat → Prop} (h : Rw W D a k c X rs G) (hg : W.grownBy V (some p)) (hp : p < D) : Rw V D a k c X rs G :=
  ⟨h.len, h.own.grown hg (fun q hq e => by have := Option.some.inj e; have := (h.own.lt q hq).1; omega), fun j r hr => mReplica.far (h.el j r hr) (fun q hq => (h.lo j q hq).1) hg hp, fun j q hq => have g := h.lo j q hq; ⟨g.1, Nat.lt_of_lt_of_le g.2.1 hg.size, g.2.2⟩, h.dj⟩
/-- One more. -/
theorem Rw.add {W V : World} {D B : Nat} {a : Option Addr} {k c : Nat} {X : Nat → SvA} {rs : List RpC} {G : Nat → Nat → Prop} {us : List Value} (h : Rw W D a k c X rs G) (h31 : us.length = 31) (h1 : One us) (hB : W.heap.size ≤ V.heap.size) (hVW : Below W.heap.size W V) (hDB : D ≤ B) (hWB : W.heap.size ≤ B) (hBV : B ≤ V.heap.size)
    (ho : mServer.own V (fun q => B ≤ q ∧ q < V.heap.size) us (X k)) (hk : k ≤ 1000) (tx : TypeId) (ht : tx = 23) (ty : TypeId) {U : World} (hU : U = V.alloc (.cells (rpC us).toArray 76)) :
    ∃ a' c' T rs' G', (Builtin.append_ #[23, tx] ty #[.slice a k c, .slice (some ⟨V.heap.size, 0, none⟩) 1 1]).run Try.prog U = .ok (.slice a' (k + 1) c') T ∧ Rw T D a' (k + 1) c' X rs' G' ∧ Below D U T := by
  subst ht
  subst hU
  have hD : D ≤ V.heap.size := by omega
  have hV := h.later hVW
  have ow := own_oneG KRp V V.heap.size 76 (rpK us h31 h1) (Nat.le_refl _)
  have hsrc := src_rowG Try.tyRp.1 1 1 (by show 0 < 43; omega) rfl ow.row (fun e => by cases e)
  have hn := below_new V (.cells (rpC us).toArray 76)
  have hA := hV.later hn
  have hs : (V.alloc (.cells (rpC us).toArray 76)).heap.size = V.heap.size + 1 := by simp
  obtain ⟨a', c', T, hr, hw, hg, ha⟩ := app_rowG Try.tyRp (V.alloc (.cells (rpC us).toArray 76)) D 23 ty a k c 1 rs [rpK us h31 h1] _ h.len.symm rfl hA.own hsrc (by omega) (by omega)
  have hgs := hg.size
  have nob : ∀ q, q < V.heap.size + 1 → ¬ ob (.slice a k c) q → ¬ ob (.slice a' (k + 1) c') q := by
    intro q hq hn hx
    rcases ha with rfl | rfl
    · exact hn (by cases a' <;> exact hx)
    · have : (V.alloc (.cells (rpC us).toArray 76)).heap.size = q := Option.some.inj hx
      omega
  have hch : Chg (fun q => ob (.slice a k c) q) (V.alloc (.cells (rpC us).toArray 76)) T := ⟨hg.os, hg.tape, hg.output, hg.size, fun q hq hn => hg.block q hq (fun e => hn e.symm)⟩
  refine ⟨a', c', T, rs ++ [rpK us h31 h1], fun j q => (j < k ∧ G j q) ∨ (j = k ∧ B ≤ q ∧ q < V.heap.size), hr, ⟨by rw [List.length_append, h.len]; rfl, hw, ?_, ?_, ?_⟩, (Below.refl D _).grown hg (by omega) (fun q hq => (hA.own.lt q hq).1)⟩
  · intro j r hj
    by_cases hjk : j < k
    · rw [List.getElem?_append_left (by rw [h.len]; exact hjk)] at hj
      exact mReplica.wid (mReplica.chg (hA.el j r hj) hch (fun q hq => (hA.lo j q hq).2.2)) (fun q hq => .inl ⟨hjk, hq⟩)
    · have hj2 : j = k := by
        have := (List.getElem?_eq_some_iff.1 hj).1
        rw [List.length_append, h.len] at this
        simp only [List.length_cons, List.length_nil] at this
        omega
      subst hj2
      rw [List.getElem?_append_right (by rw [h.len]; exact Nat.le_refl _), h.len, Nat.sub_self] at hj
      obtain rfl := Option.some.inj (show some (rpK us h31 h1) = some r from hj)
      have hh := mServer.lat ho hn
      have h2 := mServer.chg hh hch (fun q hq hx => by have := (h.own.lt q (by exact hx)).2; omega)
      exact mReplica.wid (rp_own h2) (fun q hq => .inr ⟨rfl, hq⟩)
  · rintro j q (⟨hj, hq⟩ | ⟨rfl, h1, h2⟩)
    · have g := h.lo j q hq
      exact ⟨g.1, by omega, nob q (by omega) g.2.2⟩
    · refine ⟨by omega, by omega, nob q (by omega) (fun hx => ?_)⟩
      have := (h.own.lt q (by exact hx)).2
      omega
  · rintro i j q (⟨hi, h1⟩ | ⟨rfl, h1, h2⟩) (⟨hj, h3⟩ | ⟨rfl, h3, h4⟩)
    · exact h.dj i j q h1 h3
    · have := (h.lo i q h1).2.1
      omega
    · have := (h.lo j q h3).2.1
      omega
    · rfl

end Go.Proofs.Ytmfbmnpfgbenmaa
