/-
  The size of all that a cluster holds.
-/
import Derived.Test.YtlbjmmmadoehbaaZR10
import Derived.Test.YtlbjmmmadoehbaaZR36
import Derived.Test.YtlbjmmmadoehbaaZR37
import Derived.Test.YtlbjmmmadoehbaaZR38
import Derived.Test.YtlbjmmmadoehbaaZR39
namespace Go.Proofs.Ytlbjmmmadoehbaa
open Go.ChangeShapes Go.WideShapes Go.RowKit

set_option maxRecDepth 10000 in
set_option maxHeartbeats 2000000 in
theorem szIntS_c : SzC Try.prog cIntS v1 36 := by
  rintro vs xs w L ⟨o, c, rfl, hl, hr⟩ h0 h1
  show Calls _ _ #[.slice o xs.length c, .int .i64 L] w _
  have e : cIntS.tot xs = xs.length := by
    show (xs.length : Int) + sumT cInt.tot xs = _
    rw [sumT_zero (f := cInt.tot) (fun _ => rfl), Int.add_zero]
  rw [e]
  refine calls_of_wp Try.func36 rfl ?_
  exact row_sz0 (N := 12) rfl (by decide) rfl (by kernel_rfl) w o xs.length c L hl h0 h1
set_option maxRecDepth 10000 in
set_option maxHeartbeats 2000000 in
theorem szGroup_c : SzC Try.prog cGroup vA 13 := by
  intro vs x w L hr p0 p1
  obtain ⟨⟨_, x0⟩, x1⟩ := x
  obtain ⟨_, u1, rfl, ⟨_, u0, rfl, rfl, h0⟩, h1⟩ := hr
  have l0 : u0.length = 1 := cIntS.len h0
  have e1 : (cTwo (cTwo cNil cIntS) cIntS).tot (((), x0), x1) ≤ cGroup.tot (((), x0), x1) := Int.le_refl _
  have e0 : (cTwo cNil cIntS).tot ((), x0) ≤ cGroup.tot (((), x0), x1) := Int.le_trans tot_le e1
  refine calls_of_wp Try.func13 rfl ?_
  refine z_head (us := ([] ++ u0) ++ u1) (N := 18) rfl rfl (by decide) p0 ?_
  intro a W S
  refine z_call (n := 1) (off := 0) (pre := []) (post := u1) S (by decide) (by kernel_rfl) cIntS x0 v1 rfl (Or.inr ⟨rfl, ⟨by kernel_rfl, by kernel_rfl⟩, rfl⟩) ⟨_, Try.func36, by kernel_rfl, by kernel_rfl⟩ szIntS_c p1 h0 (by simp only [List.nil_append]) rfl ?_ ?_
  · intro hn a V q1 q2 q3 q4
    exact z_ret rfl q3 q2 ⟨congrArg (fun z => Ending.returned (.int .i64 z)) (szL_no (fun hq => hn (Int.le_trans e0 hq))).symm, q4⟩
  intro a W S
  refine z_call (n := 1) (off := 1) (pre := [] ++ u0) (post := []) S (by decide) (by kernel_rfl) cIntS x1 v1 rfl (Or.inr ⟨rfl, ⟨by kernel_rfl, by kernel_rfl⟩, rfl⟩) ⟨_, Try.func36, by kernel_rfl, by kernel_rfl⟩ szIntS_c p1 h1 (by simp only [List.nil_append, List.append_nil]) (by simp only [List.length_append, List.length_nil, l0]) ?_ ?_
  · intro hn a V q1 q2 q3 q4
    exact z_ret rfl q3 q2 ⟨congrArg (fun z => Ending.returned (.int .i64 z)) (szL_no (fun hq => hn (Int.le_trans e1 hq))).symm, q4⟩
  intro a W S
  exact z_tail S (by decide) rfl (fun hq hb => ⟨congrArg (fun z => Ending.returned (.int .i64 z)) (szL_yes hq).symm, hb⟩)
set_option maxRecDepth 10000 in
set_option maxHeartbeats 2000000 in
theorem szByteS_c : SzC Try.prog cByteS v1 14 := by
  rintro vs xs w L ⟨o, c, rfl, hl, hr⟩ h0 h1
  show Calls _ _ #[.slice o xs.length c, .int .i64 L] w _
  have e : cByteS.tot xs = xs.length := by
    show (xs.length : Int) + sumT cByte.tot xs = _
    rw [sumT_zero (f := cByte.tot) (fun _ => rfl), Int.add_zero]
  rw [e]
  refine calls_of_wp Try.func14 rfl ?_
  exact row_sz0 (N := 12) rfl (by decide) rfl (by kernel_rfl) w o xs.length c L hl h0 h1
set_option maxRecDepth 10000 in
set_option maxHeartbeats 2000000 in
theorem szEntry_c : SzC Try.prog cEntry vA 37 := by
  intro vs x w L hr p0 p1
  obtain ⟨⟨⟨_, x0⟩, x1⟩, x2⟩ := x
  obtain ⟨_, u2, rfl, ⟨_, u1, rfl, ⟨_, u0, rfl, rfl, h0⟩, h1⟩, h2⟩ := hr
  have l0 : u0.length = 1 := cInt.len h0
  have l1 : u1.length = 1 := cInt.len h1
  have e2 : (cTwo (cTwo (cTwo cNil cInt) cInt) cByteS).tot ((((), x0), x1), x2) ≤ cEntry.tot ((((), x0), x1), x2) := Int.le_refl _
  refine calls_of_wp Try.func37 rfl ?_
  refine z_head (us := (([] ++ u0) ++ u1) ++ u2) (N := 12) rfl rfl (by decide) p0 ?_
  intro a W S
  replace S := z_skip (T := cInt) (b := x0) S rfl
  replace S := z_skip (T := cInt) (b := x1) S rfl
  refine z_call (n := 1) (off := 2) (pre := ([] ++ u0) ++ u1) (post := []) S (by decide) (by kernel_rfl) cByteS x2 v1 rfl (Or.inr ⟨rfl, ⟨by kernel_rfl, by kernel_rfl⟩, rfl⟩) ⟨_, Try.func14, by kernel_rfl, by kernel_rfl⟩ szByteS_c p1 h2 (by simp only [List.append_assoc, List.nil_append, List.append_nil]) (by simp only [List.length_append, List.length_nil, l0, l1]) ?_ ?_
  · intro hn a V q1 q2 q3 q4
    exact z_ret rfl q3 q2 ⟨congrArg (fun z => Ending.returned (.int .i64 z)) (szL_no (fun hq => hn (Int.le_trans e2 hq))).symm, q4⟩
  intro a W S
  exact z_tail S (by decide) rfl (fun hq hb => ⟨congrArg (fun z => Ending.returned (.int .i64 z)) (szL_yes hq).symm, hb⟩)
set_option maxRecDepth 10000 in
set_option maxHeartbeats 2000000 in
theorem szEntryS_c : SzC Try.prog cEntryS v1 15 := by
  rintro vs xs w L ⟨o, c, rfl, hl, hr⟩ h0 h1
  show Calls _ _ #[.slice o xs.length c, .int .i64 L] w _
  refine calls_of_wp Try.func15 rfl ?_
  exact row_sz (T := cEntry) (N := 27) rfl (by decide) rfl (by kernel_rfl) w o xs.length c xs rfl L hl h0 h1 (fun i a W hi h Q q r => body_szC (eA := 64) (by decide) (by kernel_rfl) (by kernel_rfl) rfl ⟨by kernel_rfl, by kernel_rfl⟩ ⟨_, Try.func37, by kernel_rfl, by kernel_rfl⟩ szEntry_c rfl hr h1 i a W hi h Q q r)
set_option maxRecDepth 10000 in
set_option maxHeartbeats 2000000 in
theorem szKeep_c : SzC Try.prog cKeep vA 4 := by
  intro vs x w L hr p0 p1
  obtain ⟨⟨⟨⟨⟨⟨⟨_, x0⟩, x1⟩, x2⟩, x3⟩, x4⟩, x5⟩, x6⟩ := x
  obtain ⟨_, u6, rfl, ⟨_, u5, rfl, ⟨_, u4, rfl, ⟨_, u3, rfl, ⟨_, u2, rfl, ⟨_, u1, rfl, ⟨_, u0, rfl, rfl, h0⟩, h1⟩, h2⟩, h3⟩, h4⟩, h5⟩, h6⟩ := hr
  have l0 : u0.length = 1 := cInt.len h0
  have l1 : u1.length = 1 := cInt.len h1
  have l2 : u2.length = 1 := cInt.len h2
  have l3 : u3.length = 1 := cInt.len h3
  have l4 : u4.length = 2 := cGroup.len h4
  have l5 : u5.length = 1 := cByteS.len h5
  have e6 : (cTwo (cTwo (cTwo (cTwo (cTwo (cTwo (cTwo cNil cInt) cInt) cInt) cInt) cGroup) cByteS) cEntryS).tot ((((((((), x0), x1), x2), x3), x4), x5), x6) ≤ cKeep.tot ((((((((), x0), x1), x2), x3), x4), x5), x6) := Int.le_refl _
  have e5 : (cTwo (cTwo (cTwo (cTwo (cTwo (cTwo cNil cInt) cInt) cInt) cInt) cGroup) cByteS).tot (((((((), x0), x1), x2), x3), x4), x5) ≤ cKeep.tot ((((((((), x0), x1), x2), x3), x4), x5), x6) := Int.le_trans tot_le e6
  have e4 : (cTwo (cTwo (cTwo (cTwo (cTwo cNil cInt) cInt) cInt) cInt) cGroup).tot ((((((), x0), x1), x2), x3), x4) ≤ cKeep.tot ((((((((), x0), x1), x2), x3), x4), x5), x6) := Int.le_trans tot_le e5
  refine calls_of_wp Try.func4 rfl ?_
  refine z_head (us := (((((([] ++ u0) ++ u1) ++ u2) ++ u3) ++ u4) ++ u5) ++ u6) (N := 24) rfl rfl (by decide) p0 ?_
  intro a W S
  replace S := z_skip (T := cInt) (b := x0) S rfl
  replace S := z_skip (T := cInt) (b := x1) S rfl
  replace S := z_skip (T := cInt) (b := x2) S rfl
  replace S := z_skip (T := cInt) (b := x3) S rfl
  refine z_call (n := 2) (off := 4) (pre := ((([] ++ u0) ++ u1) ++ u2) ++ u3) (post := u5 ++ (u6)) S (by decide) (by kernel_rfl) cGroup x4 vA rfl (Or.inl ⟨rfl, ⟨by kernel_rfl, by kernel_rfl⟩⟩) ⟨_, Try.func13, by kernel_rfl, by kernel_rfl⟩ szGroup_c p1 h4 (by simp only [List.append_assoc, List.nil_append]) (by simp only [List.length_append, List.length_nil, l0, l1, l2, l3]) ?_ ?_
  · intro hn a V q1 q2 q3 q4
    exact z_ret rfl q3 q2 ⟨congrArg (fun z => Ending.returned (.int .i64 z)) (szL_no (fun hq => hn (Int.le_trans e4 hq))).symm, q4⟩
  intro a W S
  refine z_call (n := 1) (off := 6) (pre := (((([] ++ u0) ++ u1) ++ u2) ++ u3) ++ u4) (post := u6) S (by decide) (by kernel_rfl) cByteS x5 v1 rfl (Or.inr ⟨rfl, ⟨by kernel_rfl, by kernel_rfl⟩, rfl⟩) ⟨_, Try.func14, by kernel_rfl, by kernel_rfl⟩ szByteS_c p1 h5 (by simp only [List.append_assoc, List.nil_append]) (by simp only [List.length_append, List.length_nil, l0, l1, l2, l3, l4]) ?_ ?_
  · intro hn a V q1 q2 q3 q4
    exact z_ret rfl q3 q2 ⟨congrArg (fun z => Ending.returned (.int .i64 z)) (szL_no (fun hq => hn (Int.le_trans e5 hq))).symm, q4⟩
  intro a W S
  refine z_call (n := 1) (off := 7) (pre := ((((([] ++ u0) ++ u1) ++ u2) ++ u3) ++ u4) ++ u5) (post := []) S (by decide) (by kernel_rfl) cEntryS x6 v1 rfl (Or.inr ⟨rfl, ⟨by kernel_rfl, by kernel_rfl⟩, rfl⟩) ⟨_, Try.func15, by kernel_rfl, by kernel_rfl⟩ szEntryS_c p1 h6 (by simp only [List.append_assoc, List.nil_append, List.append_nil]) (by simp only [List.length_append, List.length_nil, l0, l1, l2, l3, l4, l5]) ?_ ?_
  · intro hn a V q1 q2 q3 q4
    exact z_ret rfl q3 q2 ⟨congrArg (fun z => Ending.returned (.int .i64 z)) (szL_no (fun hq => hn (Int.le_trans e6 hq))).symm, q4⟩
  intro a W S
  exact z_tail S (by decide) rfl (fun hq hb => ⟨congrArg (fun z => Ending.returned (.int .i64 z)) (szL_yes hq).symm, hb⟩)
end Go.Proofs.Ytlbjmmmadoehbaa

/-
  What both Restart answer, by value; slots by name.
-/
namespace Go.Proofs.Ytlbjmmmadoehbaa
open Go.ChangeShapes Go.WideShapes Go.ChangeAt Go.RowKit Go.Joins Go.Deep

abbrev SvA := (((((((((Unit × Int) × KeA) × Int) × Int) × Int) × List Int) × List Int) × List Int) × Int) × Int
def z8 : List Int := [0, 0, 0, 0, 0, 0, 0, 0]
def keZ : KeA := (((((((((), 0), 0), 0), 0), (((), []), []))), []), [])
def svY (id : Int) (x : KeA) (B : Int) : SvA := ((((((((((((), id), x), 0), 0), B), []), z8), z8), 0), 6))
def svZ : SvA := ((((((((((((), 0), keZ), 0), 0), 0), []), z8), z8), 0), 0))
def zs8 : List Value := [.int .i64 0, .int .i64 0, .int .i64 0, .int .i64 0, .int .i64 0, .int .i64 0, .int .i64 0, .int .i64 0]
/-- A server of its parts. -/
theorem sv_of {W : World} {F : Nat → Prop} {id r l B e t : Int} {ks : List Value} {x : KeA} (h : mKeep.own W F ks x) :
    mServer.own W F (((((((((([] ++ [.int .i64 id]) ++ ks) ++ [.int .i64 r]) ++ [.int .i64 l]) ++ [.int .i64 B]) ++ [.slice none 0 0]) ++ zs8) ++ zs8) ++ [.int .i64 e]) ++ [.int .i64 t]) ((((((((((((), id), x), r), l), B), []), z8), z8), e), t)) := by
  have no : ∀ q : Nat, F q → ¬ (fun _ : Nat => False) q := fun _ _ h => h
  have s1 : ∀ q : Nat, F q → F q := fun _ h => h
  have s0 : ∀ q : Nat, False → F q := fun _ h => h.elim
  exact ⟨_, [.int .i64 t], F, fun _ => False, rfl, s1, s0, no, ⟨_, [.int .i64 e], F, fun _ => False, rfl, s1, s0, no, ⟨_, zs8, F, fun _ => False, rfl, s1, s0, no, ⟨_, zs8, F, fun _ => False, rfl, s1, s0, no, ⟨_, [.slice none 0 0], F, fun _ => False, rfl, s1, s0, no, ⟨_, [.int .i64 B], F, fun _ => False, rfl, s1, s0, no, ⟨_, [.int .i64 l], F, fun _ => False, rfl, s1, s0, no, ⟨_, [.int .i64 r], F, fun _ => False, rfl, s1, s0, no, ⟨_, ks, fun _ => False, F, rfl, s0, s1, fun _ h => h.elim, ⟨[], [.int .i64 id], fun _ => False, fun _ => False, rfl, fun _ h => h, fun _ h => h, fun _ h => h.elim, rfl, rfl⟩, h⟩, rfl⟩, rfl⟩, rfl⟩, .inl ⟨rfl, none, 0, rfl⟩⟩, ⟨rfl, rfl⟩⟩, ⟨rfl, rfl⟩⟩, rfl⟩, rfl⟩
theorem sv_own {W : World} {F : Nat → Prop} {id B : Int} {ks : List Value} {x : KeA} (h : mKeep.own W F ks x) : mServer.own W F (svC id ks B) (svY id x B) := by
  have e : svC id ks B = ((((((((([] ++ [.int .i64 id]) ++ ks) ++ [.int .i64 0]) ++ [.int .i64 0]) ++ [.int .i64 B]) ++ [.slice none 0 0]) ++ zs8) ++ zs8) ++ [.int .i64 0]) ++ [.int .i64 6] := by simp [svC, zs8]
  rw [e]
  exact sv_of h
theorem keZ_own {W : World} {F : Nat → Prop} : mKeep.own W F [.int .i64 0, .int .i64 0, .int .i64 0, .int .i64 0, .slice none 0 0, .slice none 0 0, .slice none 0 0, .slice none 0 0] keZ := by
  have no : ∀ q : Nat, F q → ¬ (fun _ : Nat => False) q := fun _ _ h => h
  have s1 : ∀ q : Nat, F q → F q := fun _ h => h
  have s0 : ∀ q : Nat, False → F q := fun _ h => h.elim
  exact ⟨[.int .i64 0, .int .i64 0, .int .i64 0, .int .i64 0, .slice none 0 0, .slice none 0 0, .slice none 0 0], [.slice none 0 0], F, fun _ => False, rfl, s1, s0, no, ⟨[.int .i64 0, .int .i64 0, .int .i64 0, .int .i64 0, .slice none 0 0, .slice none 0 0], [.slice none 0 0], F, fun _ => False, rfl, s1, s0, no, ⟨[.int .i64 0, .int .i64 0, .int .i64 0, .int .i64 0], [.slice none 0 0, .slice none 0 0], F, fun _ => False, rfl, s1, s0, no, ⟨[.int .i64 0, .int .i64 0, .int .i64 0], [.int .i64 0], F, fun _ => False, rfl, s1, s0, no, ⟨[.int .i64 0, .int .i64 0], [.int .i64 0], F, fun _ => False, rfl, s1, s0, no, ⟨[.int .i64 0], [.int .i64 0], F, fun _ => False, rfl, s1, s0, no, ⟨[], [.int .i64 0], F, fun _ => False, rfl, s1, s0, no, rfl, rfl⟩, rfl⟩, rfl⟩, rfl⟩, ⟨[.slice none 0 0], [.slice none 0 0], fun _ => False, fun _ => False, rfl, fun _ h => h, fun _ h => h, fun _ h => h.elim, ⟨[], [.slice none 0 0], fun _ => False, fun _ => False, rfl, fun _ h => h, fun _ h => h, fun _ h => h.elim, rfl, .inl ⟨rfl, none, 0, rfl⟩⟩, .inl ⟨rfl, none, 0, rfl⟩⟩⟩, .inl ⟨rfl, none, 0, rfl⟩⟩, .inl ⟨rfl, none, 0, rfl⟩⟩
theorem svN_own {W : World} {F : Nat → Prop} : mServer.own W F svN svZ := sv_of (id := 0) (r := 0) (l := 0) (B := 0) (e := 0) (t := 0) keZ_own
theorem sv_rep {W : World} {D : Nat} {id B : Int} {ks : List Value} {x : KeA} (h : cKeep.rep W D ks x) : cServer.rep W D (svC id ks B) (svY id x B) := by
  have e : svC id ks B = ((((((((([] ++ [.int .i64 id]) ++ ks) ++ [.int .i64 0]) ++ [.int .i64 0]) ++ [.int .i64 B]) ++ [.slice none 0 0]) ++ zs8) ++ zs8) ++ [.int .i64 0]) ++ [.int .i64 6] := by simp [svC, zs8]
  rw [e]
  exact ⟨_, [.int .i64 6], rfl, ⟨_, [.int .i64 0], rfl, ⟨_, zs8, rfl, ⟨_, zs8, rfl, ⟨_, [.slice none 0 0], rfl, ⟨_, [.int .i64 B], rfl, ⟨_, [.int .i64 0], rfl, ⟨_, [.int .i64 0], rfl, ⟨_, ks, rfl, ⟨[], [.int .i64 id], rfl, rfl, rfl⟩, h⟩, rfl⟩, rfl⟩, rfl⟩, ⟨none, 0, rfl, Nat.zero_le _, fun j x h => absurd (show ([] : List Int)[j]? = some x from h) (by simp)⟩⟩, ⟨rfl, rfl⟩⟩, ⟨rfl, rfl⟩⟩, rfl⟩, rfl⟩
/-- What Restart answers. -/
def svB (id : Int) (k : Kv) (ss : List Int) : SvA := if (inB id 1 7 && kvB k) = true then svY id (keX k ss) k.B else svZ
theorem svB_same {m k : Kv} {id : Int} {ss : List Int} (h : KvE m k) : svB id k ss = svB id m ss := by
  unfold svB
  rw [kvB_same h, keX_same h, h.B]

set_option maxHeartbeats 400000 in
theorem isWithinR (n l m : Int) (r : Bool) (h : inB n l m = r) (w : World) :
    Calls Try.prog 44 #[.int .i64 n, .int .i64 l, .int .i64 m] w fun e w' => e = .returned (.bool r) ∧ w = w' := by
  unfold inB at h
  cases a1 : decide (l ≤ n) <;> cases a2 : decide (n ≤ m) <;> simp only [a1, a2, Bool.true_and, Bool.false_and] at h <;> subst h
  all_goals
    go_enter Try.func44, Try.ntmps44
    go_wp2
    go_ret
    exact ⟨rfl, rfl⟩
set_option maxHeartbeats 400000 in
theorem isIdR (n : Int) (w : World) :
    Calls Try.prog 22 #[.int .i64 n] w fun e w' => e = .returned (.bool (inB n 1 7)) ∧ w = w' := by
  have H := hidP (fun W => isWithinR n 1 7 _ rfl W)
  go_enter Try.func22, Try.ntmps22
  go_wp2_with fail
  refine (H.out _).mono ?_
  rintro e w1 ⟨rfl, rfl⟩
  go_wp2_with fail
  go_ret
  exact ⟨rfl, rfl⟩
theorem iRestart_c (id : Int) (k : Kv) (ss : List Int) (w : World) (h : KvF w k ss) (hs : KvS k) :
    Calls Try.prog 7 #[.int .i64 id, k.v] w fun e V => ∃ us, e = .returned (vA us) ∧ mServer.own V (fun q => w.heap.size ≤ q ∧ q < V.heap.size) us (svB id k ss) ∧ Below w.heap.size w V := by
  refine calls_of_wp Try.func7 rfl ?_
  refine iRestart_walk rfl rfl id k (inB id 1 7) (kvB k) w (RK := fun W us V => mKeep.own V (fun q => W.heap.size ≤ q ∧ q < V.heap.size) us (keX k ss)) (isIdR id) (fun W hb => iKeep_any k W ⟨hs.hg, hs.hh⟩ (h.r.later hb)) ?_ ?_ ?_
  · intro _ _ W hb
    refine (ownKeep_c k ss W (h.later hb) hs).mono ?_
    rintro e V ⟨us, rfl, ho, hbl⟩
    exact ⟨us, rfl, mKeep.len ho, mKeep.one ho, hbl, ho⟩
  · intro hn V hb
    refine ⟨svN, rfl, ?_, hb⟩
    unfold svB
    rw [if_neg (by rw [hn]; decide)]
    exact svN_own
  · intro hn W V U us p hb ho hbl hp hpW hg _
    have s1 := hb.size
    have s2 := hbl.size
    have s3 := hg.size
    refine ⟨_, rfl, ?_, (hb.trans (hbl.mono hb.size)).grown hg (Nat.le_trans hb.size hbl.size) (fun q hq => by have := Option.some.inj hq; omega)⟩
    unfold svB
    rw [if_pos hn]
    exact sv_own (mKeep.wid (mKeep.far ho (fun q h => h.1) hg hpW) (fun q h => ⟨by omega, by omega⟩))
theorem sRestart_c (id : Int) (k : Kv) (ss : List Int) (w : World) (D : Nat) (h : KvO w D k ss) (hs : KvS k) :
    Calls Try.prog 5 #[.int .i64 id, k.v] w fun e V => ∃ us, e = .returned (vA us) ∧ cServer.rep V w.heap.size us (svB id k ss) ∧ Below w.heap.size w V := by
  refine calls_of_wp Try.func5 rfl ?_
  refine sRestart_walk rfl rfl id k (inB id 1 7) (kvB k) w (RK := fun W us V => cKeep.rep V W.heap.size us (keX k ss)) (fun W => l1In14 id 1 7 _ rfl W) (fun W hb => sKeep_any k W ⟨hs.hg, hs.hh, hs.hl⟩ (h.f.r.later hb) (fun e he => (h.oe e he).2)) ?_ ?_ ?_
  · intro _ hk W hb
    obtain ⟨h1, h2, h3, h4, h5⟩ := kv_small hk
    have hW := h.later hb
    refine (l13Copy_any k ss W ⟨hW.f.r, hW.hs, hW.ot, hW.os.row, fun e he => ⟨⟨(hW.oe e he).1.1, (hW.oe e he).1.2.1, (hW.oe e he).1.2.2.row⟩, en_400 (h5 e he) (hW.oe e he).1.1, (hW.oe e he).1.2.2.caps.2.2.2⟩, hW.og.caps.2.2.2, hW.oh.caps.2.2.2, hW.os.caps.2.2.2⟩ ⟨by have := hW.hg; omega, by have := hW.hh; omega, h3, by omega⟩).mono ?_
    rintro e V ⟨⟨k', rfl, e1, e2, e3, e4, e5, e6, e7, e8, e9, e10, e11, hw⟩, hbl⟩
    have c1 := hW.hg
    have c2 := hW.hh
    have c3 := hW.hs
    have c4 := hW.hl
    have d1 := hw.hg
    have d2 := hw.hh
    have d3 := hw.hs
    have d4 := hw.hl
    have hx : keX k' ss = keX k ss := by
      unfold keX
      rw [e1, e2, e3, e4, enX_key e9, e10, e11]
    have hr := kw_rep hw ⟨by omega, by omega, by omega, by omega⟩
    rw [hx] at hr
    exact ⟨k'.cells, rfl, rfl, cKeep.one hr, hbl, hr⟩
  · intro hn V hb
    refine ⟨svN, rfl, ?_, hb⟩
    unfold svB
    rw [if_neg (by rw [hn]; decide)]
    exact mServer.rep (svN_own (W := V) (F := fun _ => False)) (fun _ h => h.elim)
  · intro hn W V U us p hb ho hbl hp hpW hg _
    refine ⟨_, rfl, ?_, (hb.trans (hbl.mono hb.size)).grown hg (Nat.le_trans hb.size hbl.size) (fun q hq => by have := Option.some.inj hq; omega)⟩
    unfold svB
    rw [if_pos hn]
    exact sv_rep (cKeep.low (cKeep.frm ho (Fr.row hg hpW)) hb.size)

/-- What stands in the slots, by number. -/
structure Env (N : Nat) (E : Nat → Option Value) (a : Act) : Prop where
  get : ∀ t v, E t = some v → a.eval (.tmp t) = v
  df : a.defers = []
  sz : a.tmps.size = N
def upd (E : Nat → Option Value) (t : Nat) (v : Value) : Nat → Option Value := fun u => if u = t then some v else E u
theorem Env.put {N t : Nat} {E : Nat → Option Value} {a : Act} (S : Env N E a) (ht : t < N) (v : Value) : Env N (upd E t v) (a.put (some t) v) := by
  refine ⟨fun u x h => ?_, put_df.trans S.df, put_sz.trans S.sz⟩
  unfold upd at h
  by_cases e : u = t
  · rw [if_pos e] at h
    subst e
    obtain rfl := Option.some.inj h
    exact put_eq (by rw [S.sz]; exact ht)
  · rw [if_neg e] at h
    exact (put_ne e).trans (S.get u x h)
theorem env2 {P : Program} {fn : Func} {C : Code} {Q : Exit → Act → World → Prop} {w : World} {N : Nat} {x y : Value} (hN : fn.ntmps = N) (h2 : 2 ≤ N) (h : ∀ a, Env N (upd (upd (fun _ => none) 0 x) 1 y) a → Code.wp P C Q a w) : Code.wp P C Q ⟨#[x, y] ++ Array.replicate (fn.ntmps - (#[x, y] : Array Value).size) undef, []⟩ w := by
  refine h _ ⟨fun t v ht => ?_, rfl, by rw [frame2_z (by omega), hN]⟩
  unfold upd at ht
  by_cases e : t = 1
  · rw [if_pos e] at ht
    subst e
    obtain rfl := Option.some.inj ht
    exact frame2_1
  · rw [if_neg e] at ht
    by_cases e : t = 0
    · rw [if_pos e] at ht
      subst e
      obtain rfl := Option.some.inj ht
      exact frame2_0
    · rw [if_neg e] at ht
      cases ht

end Go.Proofs.Ytlbjmmmadoehbaa

/-
  The laws' copies of all that a cluster holds.
-/
namespace Go.Proofs.Ytlbjmmmadoehbaa
open Go.ChangeShapes Go.WideShapes Go.RowKit

set_option maxRecDepth 10000 in
set_option maxHeartbeats 2000000 in
theorem toIntS_c : ToC Try.prog cIntS v1 42 := by
  rintro vs xs w ⟨o, c, rfl, hl, hr⟩ ht
  have h0 := sumT_nn cInt.nn xs
  have h1 : (xs.length : Int) + sumT cInt.tot xs ≤ 1048576 := ht
  show Calls _ _ #[.slice o xs.length c] w _
  refine calls_of_wp Try.func42 rfl ?_
  exact row_to (T := cInt) (N := 22) (k := 1) (eO := 3) rfl (by decide) rfl (by kernel_rfl) (by kernel_rfl) (by kernel_rfl) rfl w o xs.length c xs rfl (by omega) (fun i a W hi h Q q => body_toS (eA := 3) (eO := 3) (by decide) (by kernel_rfl) (by kernel_rfl) (by kernel_rfl) (by kernel_rfl) rfl ⟨by kernel_rfl, by kernel_rfl⟩ (fun h => h) rfl hr i a W hi h Q q)
set_option maxRecDepth 10000 in
set_option maxHeartbeats 2000000 in
theorem toGroup_c : ToC Try.prog cGroup vA 19 := by
  intro vs x w hr ht
  obtain ⟨⟨_, x0⟩, x1⟩ := x
  obtain ⟨_, u1, rfl, ⟨_, u0, rfl, rfl, h0⟩, h1⟩ := hr
  obtain ⟨ht, t1⟩ := tot_two ht
  obtain ⟨ht, t0⟩ := tot_two ht
  have l0 : u0.length = 1 := cIntS.len h0
  have l1 : u1.length = 1 := cIntS.len h1
  refine calls_of_wp Try.func19 rfl ?_
  refine st_head (us := ([] ++ u0) ++ u1) (zs := [.slice none 0 0] ++ ([.slice none 0 0] ++ [])) (z := .agg #[.slice none 0 0, .slice none 0 0]) (N := 13) rfl rfl (by decide) (by kernel_rfl) (by kernel_rfl) ?_
  intro a W S
  refine st_call (n := 1) (pre := []) (post := u1) S (by decide) (by kernel_rfl) (by kernel_rfl) cIntS x0 v1 rfl (Or.inr ⟨rfl, ⟨by kernel_rfl, by kernel_rfl⟩, rfl⟩) ⟨_, Try.func42, by kernel_rfl, by kernel_rfl⟩ toIntS_c (by kernel_rfl) h0 t0 (by simp only [List.nil_append]) rfl rfl ?_
  intro a W S
  refine st_call (n := 1) (pre := [] ++ u0) (post := []) S (by decide) (by kernel_rfl) (by kernel_rfl) cIntS x1 v1 rfl (Or.inr ⟨rfl, ⟨by kernel_rfl, by kernel_rfl⟩, rfl⟩) ⟨_, Try.func42, by kernel_rfl, by kernel_rfl⟩ toIntS_c (by kernel_rfl) h1 t1 (by simp only [List.nil_append, List.append_nil]) (by simp only [List.length_append, List.length_nil, l0]) rfl ?_
  intro a W S
  refine st_tail (n := 2) S (by decide) ⟨by kernel_rfl, by kernel_rfl⟩ (by kernel_rfl) (by kernel_rfl) rfl ?_
  intro vs V hr hb
  exact ⟨vs, rfl, hr, hb⟩
set_option maxRecDepth 10000 in
set_option maxHeartbeats 2000000 in
theorem toByteS_c : ToC Try.prog cByteS v1 20 := by
  rintro vs xs w ⟨o, c, rfl, hl, hr⟩ ht
  have h0 := sumT_nn cByte.nn xs
  have h1 : (xs.length : Int) + sumT cByte.tot xs ≤ 1048576 := ht
  show Calls _ _ #[.slice o xs.length c] w _
  refine calls_of_wp Try.func20 rfl ?_
  exact row_to (T := cByte) (N := 22) (k := 1) (eO := 5) rfl (by decide) rfl (by kernel_rfl) (by kernel_rfl) (by kernel_rfl) rfl w o xs.length c xs rfl (by omega) (fun i a W hi h Q q => body_toS (eA := 5) (eO := 5) (by decide) (by kernel_rfl) (by kernel_rfl) (by kernel_rfl) (by kernel_rfl) rfl ⟨by kernel_rfl, by kernel_rfl⟩ (fun h => h) rfl hr i a W hi h Q q)
set_option maxRecDepth 10000 in
set_option maxHeartbeats 2000000 in
theorem toEntry_c : ToC Try.prog cEntry vA 43 := by
  intro vs x w hr ht
  obtain ⟨⟨⟨_, x0⟩, x1⟩, x2⟩ := x
  obtain ⟨_, u2, rfl, ⟨_, u1, rfl, ⟨_, u0, rfl, rfl, h0⟩, h1⟩, h2⟩ := hr
  obtain ⟨ht, t2⟩ := tot_two ht
  obtain ⟨ht, t1⟩ := tot_two ht
  obtain ⟨ht, t0⟩ := tot_two ht
  have l0 : u0.length = 1 := cInt.len h0
  have l1 : u1.length = 1 := cInt.len h1
  have l2 : u2.length = 1 := cByteS.len h2
  refine calls_of_wp Try.func43 rfl ?_
  refine st_head (us := (([] ++ u0) ++ u1) ++ u2) (zs := [.int .i64 0] ++ ([.int .i64 0] ++ ([.slice none 0 0] ++ []))) (z := .agg #[.int .i64 0, .int .i64 0, .slice none 0 0]) (N := 15) rfl rfl (by decide) (by kernel_rfl) (by kernel_rfl) ?_
  intro a W S
  refine st_copy (pre := []) (post := u1 ++ (u2)) S (by decide) (by kernel_rfl) (by kernel_rfl) ⟨by kernel_rfl, by kernel_rfl⟩ cInt x0 h0 (fun _ _ => h0) rfl (by simp only [List.append_assoc, List.nil_append]) rfl rfl ?_
  intro a W S
  refine st_copy (pre := [] ++ u0) (post := u2) S (by decide) (by kernel_rfl) (by kernel_rfl) ⟨by kernel_rfl, by kernel_rfl⟩ cInt x1 h1 (fun _ _ => h1) rfl (by simp only [List.append_assoc, List.nil_append]) (by simp only [List.length_append, List.length_nil, l0]) rfl ?_
  intro a W S
  refine st_call (n := 1) (pre := ([] ++ u0) ++ u1) (post := []) S (by decide) (by kernel_rfl) (by kernel_rfl) cByteS x2 v1 rfl (Or.inr ⟨rfl, ⟨by kernel_rfl, by kernel_rfl⟩, rfl⟩) ⟨_, Try.func20, by kernel_rfl, by kernel_rfl⟩ toByteS_c (by kernel_rfl) h2 t2 (by simp only [List.append_assoc, List.nil_append, List.append_nil]) (by simp only [List.length_append, List.length_nil, l0, l1]) rfl ?_
  intro a W S
  refine st_tail (n := 3) S (by decide) ⟨by kernel_rfl, by kernel_rfl⟩ (by kernel_rfl) (by kernel_rfl) rfl ?_
  intro vs V hr hb
  exact ⟨vs, rfl, hr, hb⟩
set_option maxRecDepth 10000 in
set_option maxHeartbeats 2000000 in
theorem toEntryS_c : ToC Try.prog cEntryS v1 21 := by
  rintro vs xs w ⟨o, c, rfl, hl, hr⟩ ht
  have h0 := sumT_nn cEntry.nn xs
  have h1 : (xs.length : Int) + sumT cEntry.tot xs ≤ 1048576 := ht
  show Calls _ _ #[.slice o xs.length c] w _
  refine calls_of_wp Try.func21 rfl ?_
  exact row_to (T := cEntry) (N := 23) (k := 3) (eO := 67) rfl (by decide) rfl (by kernel_rfl) (by kernel_rfl) (by kernel_rfl) rfl w o xs.length c xs rfl (by omega) (fun i a W hi h Q q => body_toC (eA := 64) (eO := 67) (by decide) (by kernel_rfl) (by kernel_rfl) (by kernel_rfl) (by kernel_rfl) rfl ⟨by kernel_rfl, by kernel_rfl⟩ (by kernel_rfl) ⟨_, Try.func43, by kernel_rfl, by kernel_rfl⟩ toEntry_c rfl hr (fun x hx => by have := sumT_mem cEntry.nn hx; omega) i a W hi h Q q)
set_option maxRecDepth 10000 in
set_option maxHeartbeats 2000000 in
theorem toKeep_c : ToC Try.prog cKeep vA 6 := by
  intro vs x w hr ht
  obtain ⟨⟨⟨⟨⟨⟨⟨_, x0⟩, x1⟩, x2⟩, x3⟩, x4⟩, x5⟩, x6⟩ := x
  obtain ⟨_, u6, rfl, ⟨_, u5, rfl, ⟨_, u4, rfl, ⟨_, u3, rfl, ⟨_, u2, rfl, ⟨_, u1, rfl, ⟨_, u0, rfl, rfl, h0⟩, h1⟩, h2⟩, h3⟩, h4⟩, h5⟩, h6⟩ := hr
  obtain ⟨ht, t6⟩ := tot_two ht
  obtain ⟨ht, t5⟩ := tot_two ht
  obtain ⟨ht, t4⟩ := tot_two ht
  obtain ⟨ht, t3⟩ := tot_two ht
  obtain ⟨ht, t2⟩ := tot_two ht
  obtain ⟨ht, t1⟩ := tot_two ht
  obtain ⟨ht, t0⟩ := tot_two ht
  have l0 : u0.length = 1 := cInt.len h0
  have l1 : u1.length = 1 := cInt.len h1
  have l2 : u2.length = 1 := cInt.len h2
  have l3 : u3.length = 1 := cInt.len h3
  have l4 : u4.length = 2 := cGroup.len h4
  have l5 : u5.length = 1 := cByteS.len h5
  have l6 : u6.length = 1 := cEntryS.len h6
  refine calls_of_wp Try.func6 rfl ?_
  refine st_head (us := (((((([] ++ u0) ++ u1) ++ u2) ++ u3) ++ u4) ++ u5) ++ u6) (zs := [.int .i64 0] ++ ([.int .i64 0] ++ ([.int .i64 0] ++ ([.int .i64 0] ++ ([.slice none 0 0, .slice none 0 0] ++ ([.slice none 0 0] ++ ([.slice none 0 0] ++ []))))))) (z := .agg #[.int .i64 0, .int .i64 0, .int .i64 0, .int .i64 0, .slice none 0 0, .slice none 0 0, .slice none 0 0, .slice none 0 0]) (N := 29) rfl rfl (by decide) (by kernel_rfl) (by kernel_rfl) ?_
  intro a W S
  refine st_copy (pre := []) (post := u1 ++ (u2 ++ (u3 ++ (u4 ++ (u5 ++ (u6)))))) S (by decide) (by kernel_rfl) (by kernel_rfl) ⟨by kernel_rfl, by kernel_rfl⟩ cInt x0 h0 (fun _ _ => h0) rfl (by simp only [List.append_assoc, List.nil_append]) rfl rfl ?_
  intro a W S
  refine st_copy (pre := [] ++ u0) (post := u2 ++ (u3 ++ (u4 ++ (u5 ++ (u6))))) S (by decide) (by kernel_rfl) (by kernel_rfl) ⟨by kernel_rfl, by kernel_rfl⟩ cInt x1 h1 (fun _ _ => h1) rfl (by simp only [List.append_assoc, List.nil_append]) (by simp only [List.length_append, List.length_nil, l0]) rfl ?_
  intro a W S
  refine st_copy (pre := ([] ++ u0) ++ u1) (post := u3 ++ (u4 ++ (u5 ++ (u6)))) S (by decide) (by kernel_rfl) (by kernel_rfl) ⟨by kernel_rfl, by kernel_rfl⟩ cInt x2 h2 (fun _ _ => h2) rfl (by simp only [List.append_assoc, List.nil_append]) (by simp only [List.length_append, List.length_nil, l0, l1]) rfl ?_
  intro a W S
  refine st_copy (pre := (([] ++ u0) ++ u1) ++ u2) (post := u4 ++ (u5 ++ (u6))) S (by decide) (by kernel_rfl) (by kernel_rfl) ⟨by kernel_rfl, by kernel_rfl⟩ cInt x3 h3 (fun _ _ => h3) rfl (by simp only [List.append_assoc, List.nil_append]) (by simp only [List.length_append, List.length_nil, l0, l1, l2]) rfl ?_
  intro a W S
  refine st_call (n := 2) (pre := ((([] ++ u0) ++ u1) ++ u2) ++ u3) (post := u5 ++ (u6)) S (by decide) (by kernel_rfl) (by kernel_rfl) cGroup x4 vA rfl (Or.inl ⟨rfl, ⟨by kernel_rfl, by kernel_rfl⟩⟩) ⟨_, Try.func19, by kernel_rfl, by kernel_rfl⟩ toGroup_c (by kernel_rfl) h4 t4 (by simp only [List.append_assoc, List.nil_append]) (by simp only [List.length_append, List.length_nil, l0, l1, l2, l3]) rfl ?_
  intro a W S
  refine st_call (n := 1) (pre := (((([] ++ u0) ++ u1) ++ u2) ++ u3) ++ u4) (post := u6) S (by decide) (by kernel_rfl) (by kernel_rfl) cByteS x5 v1 rfl (Or.inr ⟨rfl, ⟨by kernel_rfl, by kernel_rfl⟩, rfl⟩) ⟨_, Try.func20, by kernel_rfl, by kernel_rfl⟩ toByteS_c (by kernel_rfl) h5 t5 (by simp only [List.append_assoc, List.nil_append]) (by simp only [List.length_append, List.length_nil, l0, l1, l2, l3, l4]) rfl ?_
  intro a W S
  refine st_call (n := 1) (pre := ((((([] ++ u0) ++ u1) ++ u2) ++ u3) ++ u4) ++ u5) (post := []) S (by decide) (by kernel_rfl) (by kernel_rfl) cEntryS x6 v1 rfl (Or.inr ⟨rfl, ⟨by kernel_rfl, by kernel_rfl⟩, rfl⟩) ⟨_, Try.func21, by kernel_rfl, by kernel_rfl⟩ toEntryS_c (by kernel_rfl) h6 t6 (by simp only [List.append_assoc, List.nil_append, List.append_nil]) (by simp only [List.length_append, List.length_nil, l0, l1, l2, l3, l4, l5]) rfl ?_
  intro a W S
  refine st_tail (n := 8) S (by decide) ⟨by kernel_rfl, by kernel_rfl⟩ (by kernel_rfl) (by kernel_rfl) rfl ?_
  intro vs V hr hb
  exact ⟨vs, rfl, hr, hb⟩
end Go.Proofs.Ytlbjmmmadoehbaa
