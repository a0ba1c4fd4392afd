/-
  The cells of a state.
-/
import Derived.Test.YtjiplphfpkhmpaaGreatJT
namespace Go.Proofs.YtjiplphfpkhmpaaGreat
open Go.RowKit

abbrev StA : Type := (((Unit × ((Unit × List PoolA) × List BlockA)) × (((Unit × List LeaseA) × Int) × Int)) × ((Unit × List SessA) × Int)) × Int
def sPools (s : StA) : List PoolA := s.1.1.1.2.1.2
def sBlocks (s : StA) : List BlockA := s.1.1.1.2.2
def sLeases (s : StA) : List LeaseA := s.1.1.2.1.1.2
def sTok (s : StA) : Int := s.1.1.2.1.2
def sNow (s : StA) : Int := s.1.1.2.2
def sSess (s : StA) : List SessA := s.1.2.1.2
def sNext (s : StA) : Int := s.1.2.2
def sCount (s : StA) : Int := s.2
def planE (s t : StA) : Bool := eqR eqPool_B (sPools s) (sPools t) && eqR eqBlock_B (sBlocks s) (sBlocks t)
def bookE (s t : StA) : Bool := (eqR eqLease_B (sLeases s) (sLeases t) && sTok s == sTok t) && sNow s == sNow t
def deskE (s t : StA) : Bool := eqR eqSess_B (sSess s) (sSess t) && sNext s == sNext t
def sameSt (s t : StA) : Bool := ((planE s t && bookE s t) && deskE s t) && sCount s == sCount t
/-- The cells of a state. -/
structure StaC (w : World) (s : StA) (us : List Value) (oP oB oL oS : Option Addr) (cP cB cL cS : Nat) : Prop where
  e : us = [.slice oP (sPools s).length cP, .slice oB (sBlocks s).length cB, .slice oL (sLeases s).length cL, .int .i64 (sTok s), .int .i64 (sNow s), .slice oS (sSess s).length cS, .int .i64 (sNext s), .int .i64 (sCount s)]
  nP : (sPools s).length ≤ 1048576
  nB : (sBlocks s).length ≤ 1048576
  nL : (sLeases s).length ≤ 1048576
  nS : (sSess s).length ≤ 1048576
  hP : ∀ j z, (sPools s)[j]? = some z → At cPool w 0 oP j z
  hB : ∀ j z, (sBlocks s)[j]? = some z → At cBlock w 0 oB j z
  hL : ∀ j z, (sLeases s)[j]? = some z → At cLease w 0 oL j z
  hS : ∀ j z, (sSess s)[j]? = some z → At cSession w 0 oS j z
theorem StaC.later {w V : World} {s : StA} {us : List Value} {oP oB oL oS : Option Addr} {cP cB cL cS : Nat} (h : StaC w s us oP oB oL oS cP cB cL cS) (hb : Below w.heap.size w V) : StaC V s us oP oB oL oS cP cB cL cS :=
  ⟨h.e, h.nP, h.nB, h.nL, h.nS, fun j z e => (h.hP j z e).frm (Fr.of hb), fun j z e => (h.hB j z e).frm (Fr.of hb), fun j z e => (h.hL j z e).frm (Fr.of hb), fun j z e => (h.hS j z e).frm (Fr.of hb)⟩
theorem sta_parts {W : World} {us : List Value} {s : StA} (h : cState.rep W 0 us s) (ht : cState.tot s ≤ 1048576) : ∃ oP oB oL oS cP cB cL cS, StaC W s us oP oB oL oS cP cB cL cS := by
  obtain ⟨⟨⟨⟨_, ⟨⟨_, ps⟩, bs⟩⟩, ⟨⟨⟨_, ls⟩, T⟩, N⟩⟩, ⟨⟨_, ss⟩, X⟩⟩, C⟩ := s
  have t4 := (tot_two ht).1
  have t3 := (tot_two t4)
  have t2 := tot_two t3.1
  have t1 := tot_two t2.1
  have tS := (tot_two (tot_two t3.2).1).2
  have tL := (tot_two (tot_two (tot_two t2.2).1).1).2
  have tB := (tot_two t1.2).2
  have tP := (tot_two (tot_two t1.2).1).2
  obtain ⟨_, _, rfl, ⟨_, _, rfl, ⟨_, _, rfl, ⟨_, _, rfl, rfl, ⟨_, _, rfl, ⟨_, _, rfl, rfl, hP⟩, hB⟩⟩, ⟨_, _, rfl, ⟨_, _, rfl, ⟨_, _, rfl, rfl, hL⟩, rfl⟩, rfl⟩⟩, ⟨_, _, rfl, ⟨_, _, rfl, rfl, hS⟩, rfl⟩⟩, rfl⟩ := h
  obtain ⟨oP, cP, rfl, _, rP⟩ := hP
  obtain ⟨oB, cB, rfl, _, rB⟩ := hB
  obtain ⟨oL, cL, rfl, _, rL⟩ := hL
  obtain ⟨oS, cS, rfl, _, rS⟩ := hS
  have n1 := sumT_nn cPool.nn ps
  have n2 := sumT_nn cBlock.nn bs
  have n3 := sumT_nn cLease.nn ls
  have n4 := sumT_nn cSession.nn ss
  have t1' : (ps.length : Int) + sumT cPool.tot ps ≤ 1048576 := tP
  have t2' : (bs.length : Int) + sumT cBlock.tot bs ≤ 1048576 := tB
  have t3' : (ls.length : Int) + sumT cLease.tot ls ≤ 1048576 := tL
  have t4' : (ss.length : Int) + sumT cSession.tot ss ≤ 1048576 := tS
  exact ⟨oP, oB, oL, oS, cP, cB, cL, cS, rfl, by show ps.length ≤ _; omega, by show bs.length ≤ _; omega, by show ls.length ≤ _; omega, by show ss.length ≤ _; omega, rP, rB, rL, rS⟩

end Go.Proofs.YtjiplphfpkhmpaaGreat
