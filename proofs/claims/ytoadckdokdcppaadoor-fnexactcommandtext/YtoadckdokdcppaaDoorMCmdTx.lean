/-
  For every command the two CommandText answer alike, so the exact law of CommandText returns true; the card ties the library's tables to the program's text; no other condition.
-/
import Derived.Test.YtoadckdokdcppaaDoorGSc
import Derived.Test.YtoadckdokdcppaaDoorGCmI
import Derived.Test.YtoadckdokdcppaaDoorGRa
import Derived.Test.YtoadckdokdcppaaDoorGRb
import Derived.Test.YtoadckdokdcppaaDoorGRc
import Derived.Test.YtoadckdokdcppaaDoorGRd
import Derived.Test.YtoadckdokdcppaaDoorGRe
import Derived.Test.YtoadckdokdcppaaDoorMTx
import Derived.Test.YtoadckdokdcppaaDoorMUx
import Derived.Test.YtoadckdokdcppaaDoorBTo
import Derived.ProofKit
import Derived.OpenShut
import Derived.Lib.SmallJoins
import Derived.Carry
import Derived.Deep.Slices
import Derived.ChangeMaps5
import Derived.ChangeSame
import Derived.Test.YtoadckdokdcppaaDoorCards
import Derived.Test.YtoadckdokdcppaaDoorTie
import Derived.Deep.DeepHandedRow
import Derived.Lib.LaidTab
import Derived.LaidSub
namespace Go.Proofs.YtoadckdokdcppaaDoor
open Go.RowKit

theorem emp0 : (⟨#[]⟩ : ByteArray).toList.isEmpty = true := by
  unfold ByteArray.toList
  rw [ByteArray.toList.loop]
  rfl

theorem eq_1 (s q n : Int) (aS : Bool) (aH aL : BitVec 64) (ab b : Int) (hS : Bool) (hH hL : Int) (o : ByteArray) (t sp : Int) (_TA _TH : List UInt8) : (zCm (0) (s) (q) (0) (aS) (aH.toInt) (aL.toInt) (ab) (b) (hS) (hH) (hL) (o) (t) (sp) && [((fT ⟨#[110, 111, 119]⟩ n), (rB 0 n 1000000000))].all (fun z => z.2)) = spC ⟨#[]⟩ 1 s q n aS aH aL ab b hS hH hL o t sp := by
  unfold spC nB
  simp only [show hasB8 ⟨#[]⟩ 115 = false from rfl, show hasB8 ⟨#[]⟩ 113 = false from rfl, show hasB8 ⟨#[]⟩ 116 = false from rfl, show hasB8 ⟨#[]⟩ 112 = false from rfl, show hasB8 ⟨#[]⟩ 97 = false from rfl, show hasB8 ⟨#[]⟩ 98 = false from rfl, show hasB8 ⟨#[]⟩ 104 = false from rfl, show hasB8 ⟨#[]⟩ 111 = false from rfl, show rB 1 1 11 = true from rfl, if_false, Bool.false_eq_true, List.all_cons, List.all_nil, Bool.true_and, Bool.and_true]
  unfold zCm
  simp only [beq_self_eq_true, Bool.true_and]
  generalize (s == 0) = v0
  generalize (q == 0) = v1
  generalize (t == 0) = v2
  generalize (sp == 0) = v3
  generalize (rB 0 n 1000000000) = v4
  generalize ((aS == false && (aH.toInt == 0 && aL.toInt == 0) && ab == 0)) = v5
  generalize (b == 0) = v6
  generalize ((hS == false && (hH == 0 && hL == 0))) = v7
  generalize (o.toList.isEmpty) = v8
  revert v0 v1 v2 v3 v4 v5 v6 v7 v8
  decide
theorem eq_2 (s q n : Int) (aS : Bool) (aH aL : BitVec 64) (ab b : Int) (hS : Bool) (hH hL : Int) (o : ByteArray) (t sp : Int) (_TA _TH : List UInt8) : (zCm (0) (0) (q) (0) (aS) (aH.toInt) (aL.toInt) (ab) (b) (hS) (hH) (hL) (o) (t) (sp) && [((fT ⟨#[115, 101, 115, 115, 105, 111, 110]⟩ s), (rB 1 s 1000000)), ((fT ⟨#[110, 111, 119]⟩ n), (rB 0 n 1000000000))].all (fun z => z.2)) = spC ⟨#[115]⟩ 2 s q n aS aH aL ab b hS hH hL o t sp := by
  unfold spC nB
  simp only [show hasB8 ⟨#[115]⟩ 115 = true from rfl, show hasB8 ⟨#[115]⟩ 113 = false from rfl, show hasB8 ⟨#[115]⟩ 116 = false from rfl, show hasB8 ⟨#[115]⟩ 112 = false from rfl, show hasB8 ⟨#[115]⟩ 97 = false from rfl, show hasB8 ⟨#[115]⟩ 98 = false from rfl, show hasB8 ⟨#[115]⟩ 104 = false from rfl, show hasB8 ⟨#[115]⟩ 111 = false from rfl, show rB 1 2 11 = true from rfl, if_true, if_false, Bool.false_eq_true, List.all_cons, List.all_nil, Bool.true_and, Bool.and_true]
  unfold zCm
  simp only [beq_self_eq_true, Bool.true_and]
  generalize (rB 1 s 1000000) = v0
  generalize (q == 0) = v1
  generalize (t == 0) = v2
  generalize (sp == 0) = v3
  generalize (rB 0 n 1000000000) = v4
  generalize ((aS == false && (aH.toInt == 0 && aL.toInt == 0) && ab == 0)) = v5
  generalize (b == 0) = v6
  generalize ((hS == false && (hH == 0 && hL == 0))) = v7
  generalize (o.toList.isEmpty) = v8
  revert v0 v1 v2 v3 v4 v5 v6 v7 v8
  decide
theorem eq_3 (s q n : Int) (aS : Bool) (aH aL : BitVec 64) (ab b : Int) (hS : Bool) (hH hL : Int) (o : ByteArray) (t sp : Int) (TA _TH : List UInt8) : (zCm (0) (0) (0) (0) (false) (0) (0) (0) (0) (hS) (hH) (hL) (o) (t) (sp) && [((fT ⟨#[115, 101, 115, 115, 105, 111, 110]⟩ s), (rB 1 s 1000000)), ((fT ⟨#[115, 101, 113]⟩ q), (rB 1 q 1000000)), ((fT ⟨#[110, 111, 119]⟩ n), (rB 0 n 1000000000)), ((aT TA), (pokB aS aH aL ab)), ((fT ⟨#[98, 105, 116, 115]⟩ b), (rB 0 b 128))].all (fun z => z.2)) = spC ⟨#[115, 113, 97, 98]⟩ 3 s q n aS aH aL ab b hS hH hL o t sp := by
  unfold spC nB
  simp only [show hasB8 ⟨#[115, 113, 97, 98]⟩ 115 = true from rfl, show hasB8 ⟨#[115, 113, 97, 98]⟩ 113 = true from rfl, show hasB8 ⟨#[115, 113, 97, 98]⟩ 116 = false from rfl, show hasB8 ⟨#[115, 113, 97, 98]⟩ 112 = false from rfl, show hasB8 ⟨#[115, 113, 97, 98]⟩ 97 = true from rfl, show hasB8 ⟨#[115, 113, 97, 98]⟩ 98 = true from rfl, show hasB8 ⟨#[115, 113, 97, 98]⟩ 104 = false from rfl, show hasB8 ⟨#[115, 113, 97, 98]⟩ 111 = false from rfl, show rB 1 3 11 = true from rfl, if_true, if_false, Bool.false_eq_true, List.all_cons, List.all_nil, Bool.true_and, Bool.and_true]
  unfold zCm
  simp only [beq_self_eq_true, Bool.true_and, Bool.and_true]
  generalize (rB 1 s 1000000) = v0
  generalize (rB 1 q 1000000) = v1
  generalize (t == 0) = v2
  generalize (sp == 0) = v3
  generalize (rB 0 n 1000000000) = v4
  generalize (pokB aS aH aL ab) = v5
  generalize (rB 0 b 128) = v6
  generalize ((hS == false && (hH == 0 && hL == 0))) = v7
  generalize (o.toList.isEmpty) = v8
  revert v0 v1 v2 v3 v4 v5 v6 v7 v8
  decide
theorem eq_4 (s q n : Int) (aS : Bool) (aH aL : BitVec 64) (ab b : Int) (hS : Bool) (hH hL : Int) (o : ByteArray) (t sp : Int) (TA _TH : List UInt8) : (zCm (0) (0) (0) (0) (false) (0) (0) (0) (b) (hS) (hH) (hL) (o) (t) (sp) && [((fT ⟨#[115, 101, 115, 115, 105, 111, 110]⟩ s), (rB 1 s 1000000)), ((fT ⟨#[115, 101, 113]⟩ q), (rB 1 q 1000000)), ((fT ⟨#[110, 111, 119]⟩ n), (rB 0 n 1000000000)), ((aT TA), (pokB aS aH aL ab))].all (fun z => z.2)) = spC ⟨#[115, 113, 97]⟩ 4 s q n aS aH aL ab b hS hH hL o t sp := by
  unfold spC nB
  simp only [show hasB8 ⟨#[115, 113, 97]⟩ 115 = true from rfl, show hasB8 ⟨#[115, 113, 97]⟩ 113 = true from rfl, show hasB8 ⟨#[115, 113, 97]⟩ 116 = false from rfl, show hasB8 ⟨#[115, 113, 97]⟩ 112 = false from rfl, show hasB8 ⟨#[115, 113, 97]⟩ 97 = true from rfl, show hasB8 ⟨#[115, 113, 97]⟩ 98 = false from rfl, show hasB8 ⟨#[115, 113, 97]⟩ 104 = false from rfl, show hasB8 ⟨#[115, 113, 97]⟩ 111 = false from rfl, show rB 1 4 11 = true from rfl, if_true, if_false, Bool.false_eq_true, List.all_cons, List.all_nil, Bool.true_and, Bool.and_true]
  unfold zCm
  simp only [beq_self_eq_true, Bool.true_and, Bool.and_true]
  generalize (rB 1 s 1000000) = v0
  generalize (rB 1 q 1000000) = v1
  generalize (t == 0) = v2
  generalize (sp == 0) = v3
  generalize (rB 0 n 1000000000) = v4
  generalize (pokB aS aH aL ab) = v5
  generalize (b == 0) = v6
  generalize ((hS == false && (hH == 0 && hL == 0))) = v7
  generalize (o.toList.isEmpty) = v8
  revert v0 v1 v2 v3 v4 v5 v6 v7 v8
  decide
theorem eq_5 (s q n : Int) (aS : Bool) (aH aL : BitVec 64) (ab b : Int) (hS : Bool) (hH hL : Int) (o : ByteArray) (t sp : Int) (TA _TH : List UInt8) : (zCm (0) (0) (0) (0) (false) (0) (0) (0) (b) (hS) (hH) (hL) (⟨#[]⟩) (t) (sp) && [((fT ⟨#[115, 101, 115, 115, 105, 111, 110]⟩ s), (rB 1 s 1000000)), ((fT ⟨#[115, 101, 113]⟩ q), (rB 1 q 1000000)), ((fT ⟨#[110, 111, 119]⟩ n), (rB 0 n 1000000000)), ((aT TA), (pokB aS aH aL ab)), ((oT o), (ownB o))].all (fun z => z.2)) = spC ⟨#[115, 113, 97, 111]⟩ 5 s q n aS aH aL ab b hS hH hL o t sp := by
  unfold spC nB
  simp only [show hasB8 ⟨#[115, 113, 97, 111]⟩ 115 = true from rfl, show hasB8 ⟨#[115, 113, 97, 111]⟩ 113 = true from rfl, show hasB8 ⟨#[115, 113, 97, 111]⟩ 116 = false from rfl, show hasB8 ⟨#[115, 113, 97, 111]⟩ 112 = false from rfl, show hasB8 ⟨#[115, 113, 97, 111]⟩ 97 = true from rfl, show hasB8 ⟨#[115, 113, 97, 111]⟩ 98 = false from rfl, show hasB8 ⟨#[115, 113, 97, 111]⟩ 104 = false from rfl, show hasB8 ⟨#[115, 113, 97, 111]⟩ 111 = true from rfl, show rB 1 5 11 = true from rfl, if_true, if_false, Bool.false_eq_true, List.all_cons, List.all_nil, Bool.true_and, Bool.and_true]
  unfold zCm
  simp only [beq_self_eq_true, Bool.true_and, Bool.and_true, emp0]
  generalize (rB 1 s 1000000) = v0
  generalize (rB 1 q 1000000) = v1
  generalize (t == 0) = v2
  generalize (sp == 0) = v3
  generalize (rB 0 n 1000000000) = v4
  generalize (pokB aS aH aL ab) = v5
  generalize (b == 0) = v6
  generalize ((hS == false && (hH == 0 && hL == 0))) = v7
  generalize (ownB o) = v8
  revert v0 v1 v2 v3 v4 v5 v6 v7 v8
  decide
theorem eq_6 (s q n : Int) (aS : Bool) (aH aL : BitVec 64) (ab b : Int) (hS : Bool) (hH hL : Int) (o : ByteArray) (t sp : Int) (TA _TH : List UInt8) : (zCm (0) (0) (0) (0) (false) (0) (0) (0) (b) (hS) (hH) (hL) (⟨#[]⟩) (t) (sp) && [((fT ⟨#[115, 101, 115, 115, 105, 111, 110]⟩ s), (rB 1 s 1000000)), ((fT ⟨#[115, 101, 113]⟩ q), (rB 1 q 1000000)), ((fT ⟨#[110, 111, 119]⟩ n), (rB 0 n 1000000000)), ((aT TA), (pokB aS aH aL ab)), ((oT o), (ownB o))].all (fun z => z.2)) = spC ⟨#[115, 113, 97, 111]⟩ 6 s q n aS aH aL ab b hS hH hL o t sp := by
  unfold spC nB
  simp only [show hasB8 ⟨#[115, 113, 97, 111]⟩ 115 = true from rfl, show hasB8 ⟨#[115, 113, 97, 111]⟩ 113 = true from rfl, show hasB8 ⟨#[115, 113, 97, 111]⟩ 116 = false from rfl, show hasB8 ⟨#[115, 113, 97, 111]⟩ 112 = false from rfl, show hasB8 ⟨#[115, 113, 97, 111]⟩ 97 = true from rfl, show hasB8 ⟨#[115, 113, 97, 111]⟩ 98 = false from rfl, show hasB8 ⟨#[115, 113, 97, 111]⟩ 104 = false from rfl, show hasB8 ⟨#[115, 113, 97, 111]⟩ 111 = true from rfl, show rB 1 6 11 = true from rfl, if_true, if_false, Bool.false_eq_true, List.all_cons, List.all_nil, Bool.true_and, Bool.and_true]
  unfold zCm
  simp only [beq_self_eq_true, Bool.true_and, Bool.and_true, emp0]
  generalize (rB 1 s 1000000) = v0
  generalize (rB 1 q 1000000) = v1
  generalize (t == 0) = v2
  generalize (sp == 0) = v3
  generalize (rB 0 n 1000000000) = v4
  generalize (pokB aS aH aL ab) = v5
  generalize (b == 0) = v6
  generalize ((hS == false && (hH == 0 && hL == 0))) = v7
  generalize (ownB o) = v8
  revert v0 v1 v2 v3 v4 v5 v6 v7 v8
  decide
theorem eq_7 (s q n : Int) (aS : Bool) (aH aL : BitVec 64) (ab b : Int) (hS : Bool) (hH hL : Int) (o : ByteArray) (t sp : Int) (TA _TH : List UInt8) : (zCm (0) (0) (0) (0) (false) (0) (0) (0) (b) (hS) (hH) (hL) (⟨#[]⟩) (t) (0) && [((fT ⟨#[115, 101, 115, 115, 105, 111, 110]⟩ s), (rB 1 s 1000000)), ((fT ⟨#[115, 101, 113]⟩ q), (rB 1 q 1000000)), ((fT ⟨#[110, 111, 119]⟩ n), (rB 0 n 1000000000)), ((aT TA), (pokB aS aH aL ab)), ((oT o), (ownB o)), ((fT ⟨#[115, 112, 97, 110]⟩ sp), (rB 1 sp 1000))].all (fun z => z.2)) = spC ⟨#[115, 113, 97, 111, 112]⟩ 7 s q n aS aH aL ab b hS hH hL o t sp := by
  unfold spC nB
  simp only [show hasB8 ⟨#[115, 113, 97, 111, 112]⟩ 115 = true from rfl, show hasB8 ⟨#[115, 113, 97, 111, 112]⟩ 113 = true from rfl, show hasB8 ⟨#[115, 113, 97, 111, 112]⟩ 116 = false from rfl, show hasB8 ⟨#[115, 113, 97, 111, 112]⟩ 112 = true from rfl, show hasB8 ⟨#[115, 113, 97, 111, 112]⟩ 97 = true from rfl, show hasB8 ⟨#[115, 113, 97, 111, 112]⟩ 98 = false from rfl, show hasB8 ⟨#[115, 113, 97, 111, 112]⟩ 104 = false from rfl, show hasB8 ⟨#[115, 113, 97, 111, 112]⟩ 111 = true from rfl, show rB 1 7 11 = true from rfl, if_true, if_false, Bool.false_eq_true, List.all_cons, List.all_nil, Bool.true_and, Bool.and_true]
  unfold zCm
  simp only [beq_self_eq_true, Bool.true_and, Bool.and_true, emp0]
  generalize (rB 1 s 1000000) = v0
  generalize (rB 1 q 1000000) = v1
  generalize (t == 0) = v2
  generalize (rB 1 sp 1000) = v3
  generalize (rB 0 n 1000000000) = v4
  generalize (pokB aS aH aL ab) = v5
  generalize (b == 0) = v6
  generalize ((hS == false && (hH == 0 && hL == 0))) = v7
  generalize (ownB o) = v8
  revert v0 v1 v2 v3 v4 v5 v6 v7 v8
  decide
theorem eq_8 (s q n : Int) (aS : Bool) (aH aL : BitVec 64) (ab b : Int) (hS : Bool) (hH hL : Int) (o : ByteArray) (t sp : Int) (_TA TH : List UInt8) : (zCm (0) (0) (0) (0) (aS) (aH.toInt) (aL.toInt) (ab) (b) (false) (0) (0) (⟨#[]⟩) (t) (0) && [((fT ⟨#[115, 101, 115, 115, 105, 111, 110]⟩ s), (rB 1 s 1000000)), ((fT ⟨#[115, 101, 113]⟩ q), (rB 1 q 1000000)), ((fT ⟨#[110, 111, 119]⟩ n), (rB 0 n 1000000000)), ((hT TH), (okB hS hH hL)), ((oT o), (ownB o)), ((fT ⟨#[115, 112, 97, 110]⟩ sp), (rB 1 sp 1000))].all (fun z => z.2)) = spC ⟨#[115, 113, 104, 111, 112]⟩ 8 s q n aS aH aL ab b hS hH hL o t sp := by
  unfold spC nB
  simp only [show hasB8 ⟨#[115, 113, 104, 111, 112]⟩ 115 = true from rfl, show hasB8 ⟨#[115, 113, 104, 111, 112]⟩ 113 = true from rfl, show hasB8 ⟨#[115, 113, 104, 111, 112]⟩ 116 = false from rfl, show hasB8 ⟨#[115, 113, 104, 111, 112]⟩ 112 = true from rfl, show hasB8 ⟨#[115, 113, 104, 111, 112]⟩ 97 = false from rfl, show hasB8 ⟨#[115, 113, 104, 111, 112]⟩ 98 = false from rfl, show hasB8 ⟨#[115, 113, 104, 111, 112]⟩ 104 = true from rfl, show hasB8 ⟨#[115, 113, 104, 111, 112]⟩ 111 = true from rfl, show rB 1 8 11 = true from rfl, if_true, if_false, Bool.false_eq_true, List.all_cons, List.all_nil, Bool.true_and, Bool.and_true]
  unfold zCm
  simp only [beq_self_eq_true, Bool.true_and, Bool.and_true, emp0]
  generalize (rB 1 s 1000000) = v0
  generalize (rB 1 q 1000000) = v1
  generalize (t == 0) = v2
  generalize (rB 1 sp 1000) = v3
  generalize (rB 0 n 1000000000) = v4
  generalize ((aS == false && (aH.toInt == 0 && aL.toInt == 0) && ab == 0)) = v5
  generalize (b == 0) = v6
  generalize (okB hS hH hL) = v7
  generalize (ownB o) = v8
  revert v0 v1 v2 v3 v4 v5 v6 v7 v8
  decide
theorem eq_9 (s q n : Int) (aS : Bool) (aH aL : BitVec 64) (ab b : Int) (hS : Bool) (hH hL : Int) (o : ByteArray) (t sp : Int) (_TA TH : List UInt8) : (zCm (0) (0) (0) (0) (aS) (aH.toInt) (aL.toInt) (ab) (b) (false) (0) (0) (o) (0) (0) && [((fT ⟨#[115, 101, 115, 115, 105, 111, 110]⟩ s), (rB 1 s 1000000)), ((fT ⟨#[115, 101, 113]⟩ q), (rB 1 q 1000000)), ((fT ⟨#[110, 111, 119]⟩ n), (rB 0 n 1000000000)), ((hT TH), (okB hS hH hL)), ((fT ⟨#[116, 111, 107, 101, 110]⟩ t), (rB 1 t 1000000000)), ((fT ⟨#[115, 112, 97, 110]⟩ sp), (rB 1 sp 1000))].all (fun z => z.2)) = spC ⟨#[115, 113, 104, 116, 112]⟩ 9 s q n aS aH aL ab b hS hH hL o t sp := by
  unfold spC nB
  simp only [show hasB8 ⟨#[115, 113, 104, 116, 112]⟩ 115 = true from rfl, show hasB8 ⟨#[115, 113, 104, 116, 112]⟩ 113 = true from rfl, show hasB8 ⟨#[115, 113, 104, 116, 112]⟩ 116 = true from rfl, show hasB8 ⟨#[115, 113, 104, 116, 112]⟩ 112 = true from rfl, show hasB8 ⟨#[115, 113, 104, 116, 112]⟩ 97 = false from rfl, show hasB8 ⟨#[115, 113, 104, 116, 112]⟩ 98 = false from rfl, show hasB8 ⟨#[115, 113, 104, 116, 112]⟩ 104 = true from rfl, show hasB8 ⟨#[115, 113, 104, 116, 112]⟩ 111 = false from rfl, show rB 1 9 11 = true from rfl, if_true, if_false, Bool.false_eq_true, List.all_cons, List.all_nil, Bool.true_and, Bool.and_true]
  unfold zCm
  simp only [beq_self_eq_true, Bool.true_and, Bool.and_true]
  generalize (rB 1 s 1000000) = v0
  generalize (rB 1 q 1000000) = v1
  generalize (rB 1 t 1000000000) = v2
  generalize (rB 1 sp 1000) = v3
  generalize (rB 0 n 1000000000) = v4
  generalize ((aS == false && (aH.toInt == 0 && aL.toInt == 0) && ab == 0)) = v5
  generalize (b == 0) = v6
  generalize (okB hS hH hL) = v7
  generalize (o.toList.isEmpty) = v8
  revert v0 v1 v2 v3 v4 v5 v6 v7 v8
  decide
theorem eq_10 (s q n : Int) (aS : Bool) (aH aL : BitVec 64) (ab b : Int) (hS : Bool) (hH hL : Int) (o : ByteArray) (t sp : Int) (_TA TH : List UInt8) : (zCm (0) (0) (0) (0) (aS) (aH.toInt) (aL.toInt) (ab) (b) (false) (0) (0) (o) (0) (sp) && [((fT ⟨#[115, 101, 115, 115, 105, 111, 110]⟩ s), (rB 1 s 1000000)), ((fT ⟨#[115, 101, 113]⟩ q), (rB 1 q 1000000)), ((fT ⟨#[110, 111, 119]⟩ n), (rB 0 n 1000000000)), ((hT TH), (okB hS hH hL)), ((fT ⟨#[116, 111, 107, 101, 110]⟩ t), (rB 1 t 1000000000))].all (fun z => z.2)) = spC ⟨#[115, 113, 104, 116]⟩ 10 s q n aS aH aL ab b hS hH hL o t sp := by
  unfold spC nB
  simp only [show hasB8 ⟨#[115, 113, 104, 116]⟩ 115 = true from rfl, show hasB8 ⟨#[115, 113, 104, 116]⟩ 113 = true from rfl, show hasB8 ⟨#[115, 113, 104, 116]⟩ 116 = true from rfl, show hasB8 ⟨#[115, 113, 104, 116]⟩ 112 = false from rfl, show hasB8 ⟨#[115, 113, 104, 116]⟩ 97 = false from rfl, show hasB8 ⟨#[115, 113, 104, 116]⟩ 98 = false from rfl, show hasB8 ⟨#[115, 113, 104, 116]⟩ 104 = true from rfl, show hasB8 ⟨#[115, 113, 104, 116]⟩ 111 = false from rfl, show rB 1 10 11 = true from rfl, if_true, if_false, Bool.false_eq_true, List.all_cons, List.all_nil, Bool.true_and, Bool.and_true]
  unfold zCm
  simp only [beq_self_eq_true, Bool.true_and, Bool.and_true]
  generalize (rB 1 s 1000000) = v0
  generalize (rB 1 q 1000000) = v1
  generalize (rB 1 t 1000000000) = v2
  generalize (sp == 0) = v3
  generalize (rB 0 n 1000000000) = v4
  generalize ((aS == false && (aH.toInt == 0 && aL.toInt == 0) && ab == 0)) = v5
  generalize (b == 0) = v6
  generalize (okB hS hH hL) = v7
  generalize (o.toList.isEmpty) = v8
  revert v0 v1 v2 v3 v4 v5 v6 v7 v8
  decide
theorem eq_11 (s q n : Int) (aS : Bool) (aH aL : BitVec 64) (ab b : Int) (hS : Bool) (hH hL : Int) (o : ByteArray) (t sp : Int) (_TA _TH : List UInt8) : (zCm (0) (s) (q) (0) (aS) (aH.toInt) (aL.toInt) (ab) (b) (hS) (hH) (hL) (o) (t) (sp) && [((fT ⟨#[110, 111, 119]⟩ n), (rB 0 n 1000000000))].all (fun z => z.2)) = spC ⟨#[]⟩ 11 s q n aS aH aL ab b hS hH hL o t sp := by
  unfold spC nB
  simp only [show hasB8 ⟨#[]⟩ 115 = false from rfl, show hasB8 ⟨#[]⟩ 113 = false from rfl, show hasB8 ⟨#[]⟩ 116 = false from rfl, show hasB8 ⟨#[]⟩ 112 = false from rfl, show hasB8 ⟨#[]⟩ 97 = false from rfl, show hasB8 ⟨#[]⟩ 98 = false from rfl, show hasB8 ⟨#[]⟩ 104 = false from rfl, show hasB8 ⟨#[]⟩ 111 = false from rfl, show rB 1 11 11 = true from rfl, if_false, Bool.false_eq_true, List.all_cons, List.all_nil, Bool.true_and, Bool.and_true]
  unfold zCm
  simp only [beq_self_eq_true, Bool.true_and]
  generalize (s == 0) = v0
  generalize (q == 0) = v1
  generalize (t == 0) = v2
  generalize (sp == 0) = v3
  generalize (rB 0 n 1000000000) = v4
  generalize ((aS == false && (aH.toInt == 0 && aL.toInt == 0) && ab == 0)) = v5
  generalize (b == 0) = v6
  generalize ((hS == false && (hH == 0 && hL == 0))) = v7
  generalize (o.toList.isEmpty) = v8
  revert v0 v1 v2 v3 v4 v5 v6 v7 v8
  decide

end Go.Proofs.YtoadckdokdcppaaDoor

namespace Go.Proofs.YtoadckdokdcppaaDoor
open Go.RowKit

set_option maxRecDepth 10000 in
set_option maxHeartbeats 2000000 in
theorem ro_no (k : Int) (s q n : Int) (aS : Bool) (aH aL : BitVec 64) (ab b : Int) (hS : Bool) (hH hL : Int) (o : ByteArray) (t sp : Int) (y : World) (e1 : (k == 1) = false) (e2 : (k == 2) = false) (e3 : (k == 3) = false) (e4 : (k == 4) = false) (e5 : (k == 5) = false) (e6 : (k == 6) = false) (e7 : (k == 7) = false) (e8 : (k == 8) = false) (e9 : (k == 9) = false) (e10 : (k == 10) = false) (e11 : (k == 11) = false) :
    Calls Tryd.prog 20 #[.agg #[.int .i64 k, .int .i64 s, .int .i64 q, .int .i64 n, .bool aS, .int .i64 aH.toInt, .int .i64 aL.toInt, .int .i64 ab, .int .i64 b, .bool hS, .int .i64 hH, .int .i64 hL, .string o, .int .i64 t, .int .i64 sp]] y fun e w' => e = .returned (.tuple #[.nilIface, .bool false]) ∧ Below y.heap.size y w' := by
  have HO := hidP (fun x h => oo_no y.heap.size k s q n aS aH.toInt aL.toInt ab b hS hH hL o t sp x h e1 e2 e3 e4 e5 e6 e7 e8 e9 e10 e11)
  clear e1 e2 e3 e4 e5 e6 e7 e8 e9 e10 e11
  go_enter Tryd.func20, Tryd.ntmps20
  go_wp2_with fail
  have HX0 := hidP (Bx.new y [.int .i64 k, .int .i64 s, .int .i64 q, .int .i64 n, .bool aS, .int .i64 aH.toInt, .int .i64 aL.toInt, .int .i64 ab, .int .i64 b, .bool hS, .int .i64 hH, .int .i64 hL, .string o, .int .i64 t, .int .i64 sp] 34)
  have HU := hidP ((Below.refl y.heap.size y).alloc (Nat.le_refl _) (.cells #[.int .i64 k, .int .i64 s, .int .i64 q, .int .i64 n, .bool aS, .int .i64 aH.toInt, .int .i64 aL.toInt, .int .i64 ab, .int .i64 b, .bool hS, .int .i64 hH, .int .i64 hL, .string o, .int .i64 t, .int .i64 sp] 34))
  refine (HO.out _ HX0.out).mono ?_
  rintro e w1 ⟨rfl, _, hk⟩
  have HB1 := hidP (HU.out.trans hk.low)
  clear hk
  go_wp2_with fail
  go_ret2
  exact ⟨rfl, HB1.out⟩

set_option maxHeartbeats 1000000 in
theorem iCmd_of (k : Int) (s q n : Int) (aS : Bool) (aH aL : BitVec 64) (ab b : Int) (hS : Bool) (hH hL : Int) (o : ByteArray) (t sp : Int) (r : Bool) (hr : ∀ w : World, Tabs w → Calls Tryd.prog 20 #[.agg #[.int .i64 k, .int .i64 s, .int .i64 q, .int .i64 n, .bool aS, .int .i64 aH.toInt, .int .i64 aL.toInt, .int .i64 ab, .int .i64 b, .bool hS, .int .i64 hH, .int .i64 hL, .string o, .int .i64 t, .int .i64 sp]] w fun e w' => (∃ v, e = .returned (.tuple #[v, .bool r])) ∧ Below w.heap.size w w') (y : World) (ht : Tabs y) :
    Calls Tryd.prog 8 #[.agg #[.int .i64 k, .int .i64 s, .int .i64 q, .int .i64 n, .bool aS, .int .i64 aH.toInt, .int .i64 aL.toInt, .int .i64 ab, .int .i64 b, .bool hS, .int .i64 hH, .int .i64 hL, .string o, .int .i64 t, .int .i64 sp]] y fun e w' => e = .returned (.bool r) ∧ Below y.heap.size y w' := by
  have HR := hidP hr
  have HT := hidP ht
  have ab := (Below.refl y.heap.size y).alloc (Nat.le_refl _) (.cells #[.int .i64 k, .int .i64 s, .int .i64 q, .int .i64 n, .bool aS, .int .i64 aH.toInt, .int .i64 aL.toInt, .int .i64 ab, .int .i64 b, .bool hS, .int .i64 hH, .int .i64 hL, .string o, .int .i64 t, .int .i64 sp] 34)
  clear hr ht
  go_enter Tryd.func8, Tryd.ntmps8
  go_wp2_with fail
  refine (HR.out _ (HT.out.below ab)).mono ?_
  rintro e w1 ⟨⟨v, rfl⟩, hb⟩
  have HB := hidP (ab.trans (hb.mono (by simp)))
  clear hb
  go_wp2_with fail
  go_ret
  exact ⟨rfl, HB.out⟩

theorem ptxt (s : Bool) (H L : BitVec 64) (b : Int) : ∃ T : List UInt8, T.length ≤ 200 ∧ ∀ w : World, Tabs w → Calls Tryd.prog 48 #[.agg #[.bool s, .int .i64 H.toInt, .int .i64 L.toInt, .int .i64 b]] w fun e w' => e = .returned (.string ⟨T.toArray⟩) ∧ Below w.heap.size w w' := by
  cases hp : pokB s H L b
  · exact ⟨[], by simp, fun w _ => iPText_no s H L b hp w⟩
  · have bd : ∀ x : BitVec 64, -9223372036854775808 ≤ x.toInt ∧ x.toInt ≤ 9223372036854775807 := fun x => by
      have h1 := BitVec.toInt_lt (x := x); have h2 := BitVec.le_toInt (x := x); simp at h1 h2; omega
    obtain ⟨T, hT, _, hi⟩ := text_bothP s H.toInt L.toInt (bd H) (bd L)
    have hb := (pokB_parts hp).2.1
    have hw : (wd s : Int) ≤ 128 := by cases s <;> decide
    have hd := decs_len b
    exact ⟨T ++ [47] ++ decs b, by simp; omega, fun w ht => iPText_yes s H L b T _ hb.1 (by omega) hT hd rfl hi hp w ht⟩
theorem atxt (s : Bool) (H L : Int) (bH : I6 H) (bL : I6 L) : ∃ T : List UInt8, T.length ≤ 200 ∧ ∀ w : World, Tabs w → Calls Tryd.prog 51 #[.agg #[.bool s, .int .i64 H, .int .i64 L]] w fun e w' => e = .returned (.string ⟨T.toArray⟩) ∧ Below w.heap.size w w' := by
  obtain ⟨T, hT, _, hi⟩ := text_bothP s H L bH bL
  exact ⟨T, by omega, hi⟩

theorem cmd_both (k : Int) (s q n : Int) (aS : Bool) (aH aL : BitVec 64) (ab b : Int) (hS : Bool) (hH hL : Int) (o : ByteArray) (t sp : Int) (HI : CmI s q n b t sp o) (bH : I6 hH) (bL : I6 hL) :
    ∃ r : Bool, (∀ w : World, Calls Tryd.prog 6 #[.agg #[.int .i64 k, .int .i64 s, .int .i64 q, .int .i64 n, .bool aS, .int .i64 aH.toInt, .int .i64 aL.toInt, .int .i64 ab, .int .i64 b, .bool hS, .int .i64 hH, .int .i64 hL, .string o, .int .i64 t, .int .i64 sp]] w fun e w' => e = .returned (.bool r) ∧ Below w.heap.size w w') ∧
      (∀ w : World, Tabs w → Calls Tryd.prog 8 #[.agg #[.int .i64 k, .int .i64 s, .int .i64 q, .int .i64 n, .bool aS, .int .i64 aH.toInt, .int .i64 aL.toInt, .int .i64 ab, .int .i64 b, .bool hS, .int .i64 hH, .int .i64 hL, .string o, .int .i64 t, .int .i64 sp]] w fun e w' => e = .returned (.bool r) ∧ Below w.heap.size w w') := by
  obtain ⟨TA, hA⟩ := ptxt aS aH aL ab
  obtain ⟨TH, hH'⟩ := atxt hS hH hL bH bL
  by_cases e1 : k = 1
  · subst e1
    refine ⟨spC ⟨#[]⟩ 1 s q n aS aH aL ab b hS hH hL o t sp, fun w => sCmd ⟨#[]⟩ (by decide) 1 s q n aS aH aL ab b hS hH hL o t sp HI.o has_1 w, fun w ht => iCmd_of 1 s q n aS aH aL ab b hS hH hL o t sp _ (fun w h => ?_) w ht⟩
    refine (ro_1 s q n aS aH aL ab b hS hH hL o t sp TA TH HI hA hH' w h).mono ?_
    rintro e w' ⟨⟨h1, rfl⟩ | ⟨h1, rfl⟩, hb⟩
    · rw [← eq_1 s q n aS aH aL ab b hS hH hL o t sp TA TH, h1]; exact ⟨⟨_, rfl⟩, hb⟩
    · rw [← eq_1 s q n aS aH aL ab b hS hH hL o t sp TA TH, h1]; exact ⟨⟨_, rfl⟩, hb⟩
  by_cases e2 : k = 2
  · subst e2
    refine ⟨spC ⟨#[115]⟩ 2 s q n aS aH aL ab b hS hH hL o t sp, fun w => sCmd ⟨#[115]⟩ (by decide) 2 s q n aS aH aL ab b hS hH hL o t sp HI.o has_2 w, fun w ht => iCmd_of 2 s q n aS aH aL ab b hS hH hL o t sp _ (fun w h => ?_) w ht⟩
    refine (ro_2 s q n aS aH aL ab b hS hH hL o t sp TA TH HI hA hH' w h).mono ?_
    rintro e w' ⟨⟨h1, rfl⟩ | ⟨h1, rfl⟩, hb⟩
    · rw [← eq_2 s q n aS aH aL ab b hS hH hL o t sp TA TH, h1]; exact ⟨⟨_, rfl⟩, hb⟩
    · rw [← eq_2 s q n aS aH aL ab b hS hH hL o t sp TA TH, h1]; exact ⟨⟨_, rfl⟩, hb⟩
  by_cases e3 : k = 3
  · subst e3
    refine ⟨spC ⟨#[115, 113, 97, 98]⟩ 3 s q n aS aH aL ab b hS hH hL o t sp, fun w => sCmd ⟨#[115, 113, 97, 98]⟩ (by decide) 3 s q n aS aH aL ab b hS hH hL o t sp HI.o has_3 w, fun w ht => iCmd_of 3 s q n aS aH aL ab b hS hH hL o t sp _ (fun w h => ?_) w ht⟩
    refine (ro_3 s q n aS aH aL ab b hS hH hL o t sp TA TH HI hA hH' w h).mono ?_
    rintro e w' ⟨⟨h1, rfl⟩ | ⟨h1, rfl⟩, hb⟩
    · rw [← eq_3 s q n aS aH aL ab b hS hH hL o t sp TA TH, h1]; exact ⟨⟨_, rfl⟩, hb⟩
    · rw [← eq_3 s q n aS aH aL ab b hS hH hL o t sp TA TH, h1]; exact ⟨⟨_, rfl⟩, hb⟩
  by_cases e4 : k = 4
  · subst e4
    refine ⟨spC ⟨#[115, 113, 97]⟩ 4 s q n aS aH aL ab b hS hH hL o t sp, fun w => sCmd ⟨#[115, 113, 97]⟩ (by decide) 4 s q n aS aH aL ab b hS hH hL o t sp HI.o has_4 w, fun w ht => iCmd_of 4 s q n aS aH aL ab b hS hH hL o t sp _ (fun w h => ?_) w ht⟩
    refine (ro_4 s q n aS aH aL ab b hS hH hL o t sp TA TH HI hA hH' w h).mono ?_
    rintro e w' ⟨⟨h1, rfl⟩ | ⟨h1, rfl⟩, hb⟩
    · rw [← eq_4 s q n aS aH aL ab b hS hH hL o t sp TA TH, h1]; exact ⟨⟨_, rfl⟩, hb⟩
    · rw [← eq_4 s q n aS aH aL ab b hS hH hL o t sp TA TH, h1]; exact ⟨⟨_, rfl⟩, hb⟩
  by_cases e5 : k = 5
  · subst e5
    refine ⟨spC ⟨#[115, 113, 97, 111]⟩ 5 s q n aS aH aL ab b hS hH hL o t sp, fun w => sCmd ⟨#[115, 113, 97, 111]⟩ (by decide) 5 s q n aS aH aL ab b hS hH hL o t sp HI.o has_5 w, fun w ht => iCmd_of 5 s q n aS aH aL ab b hS hH hL o t sp _ (fun w h => ?_) w ht⟩
    refine (ro_5 s q n aS aH aL ab b hS hH hL o t sp TA TH HI hA hH' w h).mono ?_
    rintro e w' ⟨⟨h1, rfl⟩ | ⟨h1, rfl⟩, hb⟩
    · rw [← eq_5 s q n aS aH aL ab b hS hH hL o t sp TA TH, h1]; exact ⟨⟨_, rfl⟩, hb⟩
    · rw [← eq_5 s q n aS aH aL ab b hS hH hL o t sp TA TH, h1]; exact ⟨⟨_, rfl⟩, hb⟩
  by_cases e6 : k = 6
  · subst e6
    refine ⟨spC ⟨#[115, 113, 97, 111]⟩ 6 s q n aS aH aL ab b hS hH hL o t sp, fun w => sCmd ⟨#[115, 113, 97, 111]⟩ (by decide) 6 s q n aS aH aL ab b hS hH hL o t sp HI.o has_6 w, fun w ht => iCmd_of 6 s q n aS aH aL ab b hS hH hL o t sp _ (fun w h => ?_) w ht⟩
    refine (ro_6 s q n aS aH aL ab b hS hH hL o t sp TA TH HI hA hH' w h).mono ?_
    rintro e w' ⟨⟨h1, rfl⟩ | ⟨h1, rfl⟩, hb⟩
    · rw [← eq_6 s q n aS aH aL ab b hS hH hL o t sp TA TH, h1]; exact ⟨⟨_, rfl⟩, hb⟩
    · rw [← eq_6 s q n aS aH aL ab b hS hH hL o t sp TA TH, h1]; exact ⟨⟨_, rfl⟩, hb⟩
  by_cases e7 : k = 7
  · subst e7
    refine ⟨spC ⟨#[115, 113, 97, 111, 112]⟩ 7 s q n aS aH aL ab b hS hH hL o t sp, fun w => sCmd ⟨#[115, 113, 97, 111, 112]⟩ (by decide) 7 s q n aS aH aL ab b hS hH hL o t sp HI.o has_7 w, fun w ht => iCmd_of 7 s q n aS aH aL ab b hS hH hL o t sp _ (fun w h => ?_) w ht⟩
    refine (ro_7 s q n aS aH aL ab b hS hH hL o t sp TA TH HI hA hH' w h).mono ?_
    rintro e w' ⟨⟨h1, rfl⟩ | ⟨h1, rfl⟩, hb⟩
    · rw [← eq_7 s q n aS aH aL ab b hS hH hL o t sp TA TH, h1]; exact ⟨⟨_, rfl⟩, hb⟩
    · rw [← eq_7 s q n aS aH aL ab b hS hH hL o t sp TA TH, h1]; exact ⟨⟨_, rfl⟩, hb⟩
  by_cases e8 : k = 8
  · subst e8
    refine ⟨spC ⟨#[115, 113, 104, 111, 112]⟩ 8 s q n aS aH aL ab b hS hH hL o t sp, fun w => sCmd ⟨#[115, 113, 104, 111, 112]⟩ (by decide) 8 s q n aS aH aL ab b hS hH hL o t sp HI.o has_8 w, fun w ht => iCmd_of 8 s q n aS aH aL ab b hS hH hL o t sp _ (fun w h => ?_) w ht⟩
    refine (ro_8 s q n aS aH aL ab b hS hH hL o t sp TA TH HI hA hH' w h).mono ?_
    rintro e w' ⟨⟨h1, rfl⟩ | ⟨h1, rfl⟩, hb⟩
    · rw [← eq_8 s q n aS aH aL ab b hS hH hL o t sp TA TH, h1]; exact ⟨⟨_, rfl⟩, hb⟩
    · rw [← eq_8 s q n aS aH aL ab b hS hH hL o t sp TA TH, h1]; exact ⟨⟨_, rfl⟩, hb⟩
  by_cases e9 : k = 9
  · subst e9
    refine ⟨spC ⟨#[115, 113, 104, 116, 112]⟩ 9 s q n aS aH aL ab b hS hH hL o t sp, fun w => sCmd ⟨#[115, 113, 104, 116, 112]⟩ (by decide) 9 s q n aS aH aL ab b hS hH hL o t sp HI.o has_9 w, fun w ht => iCmd_of 9 s q n aS aH aL ab b hS hH hL o t sp _ (fun w h => ?_) w ht⟩
    refine (ro_9 s q n aS aH aL ab b hS hH hL o t sp TA TH HI hA hH' w h).mono ?_
    rintro e w' ⟨⟨h1, rfl⟩ | ⟨h1, rfl⟩, hb⟩
    · rw [← eq_9 s q n aS aH aL ab b hS hH hL o t sp TA TH, h1]; exact ⟨⟨_, rfl⟩, hb⟩
    · rw [← eq_9 s q n aS aH aL ab b hS hH hL o t sp TA TH, h1]; exact ⟨⟨_, rfl⟩, hb⟩
  by_cases e10 : k = 10
  · subst e10
    refine ⟨spC ⟨#[115, 113, 104, 116]⟩ 10 s q n aS aH aL ab b hS hH hL o t sp, fun w => sCmd ⟨#[115, 113, 104, 116]⟩ (by decide) 10 s q n aS aH aL ab b hS hH hL o t sp HI.o has_10 w, fun w ht => iCmd_of 10 s q n aS aH aL ab b hS hH hL o t sp _ (fun w h => ?_) w ht⟩
    refine (ro_10 s q n aS aH aL ab b hS hH hL o t sp TA TH HI hA hH' w h).mono ?_
    rintro e w' ⟨⟨h1, rfl⟩ | ⟨h1, rfl⟩, hb⟩
    · rw [← eq_10 s q n aS aH aL ab b hS hH hL o t sp TA TH, h1]; exact ⟨⟨_, rfl⟩, hb⟩
    · rw [← eq_10 s q n aS aH aL ab b hS hH hL o t sp TA TH, h1]; exact ⟨⟨_, rfl⟩, hb⟩
  by_cases e11 : k = 11
  · subst e11
    refine ⟨spC ⟨#[]⟩ 11 s q n aS aH aL ab b hS hH hL o t sp, fun w => sCmd ⟨#[]⟩ (by decide) 11 s q n aS aH aL ab b hS hH hL o t sp HI.o has_11 w, fun w ht => iCmd_of 11 s q n aS aH aL ab b hS hH hL o t sp _ (fun w h => ?_) w ht⟩
    refine (ro_11 s q n aS aH aL ab b hS hH hL o t sp TA TH HI hA hH' w h).mono ?_
    rintro e w' ⟨⟨h1, rfl⟩ | ⟨h1, rfl⟩, hb⟩
    · rw [← eq_11 s q n aS aH aL ab b hS hH hL o t sp TA TH, h1]; exact ⟨⟨_, rfl⟩, hb⟩
    · rw [← eq_11 s q n aS aH aL ab b hS hH hL o t sp TA TH, h1]; exact ⟨⟨_, rfl⟩, hb⟩
  have hz : spC ⟨#[]⟩ k s q n aS aH aL ab b hS hH hL o t sp = false := by
    unfold spC
    have : rB 1 k 11 = false := by unfold rB; rw [Bool.and_eq_false_iff, decide_eq_false_iff_not, decide_eq_false_iff_not]; omega
    rw [this, Bool.false_and]
  refine ⟨false, fun w => ?_, fun w ht => iCmd_of k s q n aS aH aL ab b hS hH hL o t sp _ (fun w h => ?_) w ht⟩
  · have := sCmd ⟨#[]⟩ (by decide) k s q n aS aH aL ab b hS hH hL o t sp HI.o (fun w => has_no k w (by simp [e2]) (by simp [e3]) (by simp [e4]) (by simp [e5]) (by simp [e6]) (by simp [e7]) (by simp [e8]) (by simp [e9]) (by simp [e10])) w
    rw [hz] at this
    exact this
  · refine (ro_no k s q n aS aH aL ab b hS hH hL o t sp w (by simp [e1]) (by simp [e2]) (by simp [e3]) (by simp [e4]) (by simp [e5]) (by simp [e6]) (by simp [e7]) (by simp [e8]) (by simp [e9]) (by simp [e10]) (by simp [e11])).mono ?_
    rintro e w' ⟨rfl, hb⟩
    exact ⟨⟨_, rfl⟩, hb⟩

end Go.Proofs.YtoadckdokdcppaaDoor

namespace Go.Proofs.YtoadckdokdcppaaDoor
open Go.RowKit

theorem ptxt2 (s : Bool) (H L : BitVec 64) (b : Int) : ∃ T : List UInt8, (T.length ≤ 200 ∧ ∀ w : World, Calls Tryd.prog 22 #[.agg #[.bool s, .int .i64 H.toInt, .int .i64 L.toInt, .int .i64 b]] w fun e w' => e = .returned (.string ⟨T.toArray⟩) ∧ Below w.heap.size w w') ∧ (T.length ≤ 200 ∧ ∀ w : World, Tabs w → Calls Tryd.prog 48 #[.agg #[.bool s, .int .i64 H.toInt, .int .i64 L.toInt, .int .i64 b]] w fun e w' => e = .returned (.string ⟨T.toArray⟩) ∧ Below w.heap.size w w') := by
  cases hp : pokB s H L b
  · exact ⟨[], ⟨by simp, fun w => sPText_no s H L b hp w⟩, ⟨by simp, fun w _ => iPText_no s H L b hp w⟩⟩
  · have bd : ∀ x : BitVec 64, -9223372036854775808 ≤ x.toInt ∧ x.toInt ≤ 9223372036854775807 := fun x => by
      have h1 := BitVec.toInt_lt (x := x); have h2 := BitVec.le_toInt (x := x); simp at h1 h2; omega
    obtain ⟨T, hT, hs, hi⟩ := text_bothP s H.toInt L.toInt (bd H) (bd L)
    have hb := (pokB_parts hp).2.1
    have hw : (wd s : Int) ≤ 128 := by cases s <;> decide
    have hd := decs_len b
    have hl : (T ++ [47] ++ decs b).length ≤ 200 := by simp; omega
    exact ⟨T ++ [47] ++ decs b, ⟨hl, fun w => sPText_yes s H L b T _ hb.1 (by omega) hT hd rfl hs hp w⟩, ⟨hl, fun w ht => iPText_yes s H L b T _ hb.1 (by omega) hT hd rfl hi hp w ht⟩⟩
theorem dec_is (n : Int) (h0 : 0 ≤ n) (h1 : n ≤ 1000000000) : DecIs n (Lib.itoa n) := by
  refine ⟨?_, fun w => dec_any n h0 h1 w⟩
  obtain ⟨k, rfl⟩ : ∃ k : Nat, n = (k : Int) := ⟨n.toNat, by omega⟩
  have e : Lib.itoa (k : Int) = Lib.decDigits k := by unfold Lib.itoa; rw [if_neg (by omega)]; rfl
  rw [e, Lib.decDigits_length]
  have := nDig_le 9 k (by omega)
  omega
theorem rB_bd {a n b : Int} (h : rB a n b = true) : a ≤ n ∧ n ≤ b := by
  unfold rB at h; simpa using h
theorem all_at {fl : List (ByteArray × Bool)} (h : fl.all (fun z => z.2) = true) (i : Nat) (z : ByteArray × Bool) (hz : fl[i]? = some z) : z.2 = true := List.all_eq_true.mp h z (List.mem_of_getElem? hz)
theorem fT_size (nm : ByteArray) (n : Int) (hn : nm.size ≤ 10) (hz : I6 n) : (fT nm n).size ≤ 1048600 := by
  have := Lib.itoa_length_le n hz.1 hz.2
  unfold fT
  rw [ByteArray.size_append, ByteArray.size_append]
  have h1 : (⟨#[61]⟩ : ByteArray).size = 1 := rfl
  have h2 : (⟨(Lib.itoa n).toArray⟩ : ByteArray).size = (Lib.itoa n).length := by show (Lib.itoa n).toArray.size = _; simp
  omega
theorem oT_size (o : ByteArray) (h : o.size ≤ 1048576) : (oT o).size ≤ 1048600 := by
  unfold oT; rw [ByteArray.size_append]; have : (⟨#[111, 119, 110, 101, 114, 61]⟩ : ByteArray).size = 6 := rfl; omega
theorem aT_size (T : List UInt8) (h : T.length ≤ 200) : (aT T).size ≤ 1048600 := by
  unfold aT; rw [ByteArray.size_append]; have : (⟨#[97, 116, 61]⟩ : ByteArray).size = 3 := rfl
  have h2 : (⟨T.toArray⟩ : ByteArray).size = T.length := by show T.toArray.size = _; simp
  omega
theorem hT_size (T : List UInt8) (h : T.length ≤ 200) : (hT T).size ≤ 1048600 := by
  unfold hT; rw [ByteArray.size_append]; have : (⟨#[104, 111, 115, 116, 61]⟩ : ByteArray).size = 5 := rfl
  have h2 : (⟨T.toArray⟩ : ByteArray).size = T.length := by show T.toArray.size = _; simp
  omega
theorem jq_1 (n : Int) (b0 : Bool) : jn ⟨#[111, 112, 101, 110]⟩ [(fT ⟨#[110, 111, 119]⟩ n, b0)] = ((⟨#[111, 112, 101, 110]⟩ : ByteArray) ++ (⟨#[32, 110, 111, 119, 61]⟩ : ByteArray) ++ ⟨(Lib.itoa n).toArray⟩) := by
  simp only [jn, List.foldl_cons, List.foldl_nil, fT]
  apply ByteArray.ext
  apply Array.ext'
  simp
theorem tb_1 (s q n : Int) (aS : Bool) (aH aL : BitVec 64) (ab b : Int) (hS : Bool) (hH hL : Int) (o : ByteArray) (t sp : Int) (HI : CmI s q n b t sp o) (bH : I6 hH) (bL : I6 hL) :
    ∃ T : ByteArray, (∀ w : World, Calls Tryd.prog 9 #[.agg #[.int .i64 1, .int .i64 s, .int .i64 q, .int .i64 n, .bool aS, .int .i64 aH.toInt, .int .i64 aL.toInt, .int .i64 ab, .int .i64 b, .bool hS, .int .i64 hH, .int .i64 hL, .string o, .int .i64 t, .int .i64 sp]] w fun e w' => e = .returned (.string T) ∧ Below w.heap.size w w') ∧
      (∀ w : World, Tabs w → Calls Tryd.prog 10 #[.agg #[.int .i64 1, .int .i64 s, .int .i64 q, .int .i64 n, .bool aS, .int .i64 aH.toInt, .int .i64 aL.toInt, .int .i64 ab, .int .i64 b, .bool hS, .int .i64 hH, .int .i64 hL, .string o, .int .i64 t, .int .i64 sp]] w fun e w' => e = .returned (.string T) ∧ Below w.heap.size w w') := by
  obtain ⟨TA, _, hA⟩ := ptxt2 aS aH aL ab
  obtain ⟨TH, hTl, _, hHi⟩ := text_bothP hS hH hL bH bL

  have hH' := And.intro (show TH.length ≤ 200 by omega) hHi
  have hfs : ∀ z ∈ [((fT ⟨#[110, 111, 119]⟩ n), (rB 0 n 1000000000))], z.1.size ≤ 1048600 := List.forall_mem_cons.mpr ⟨fT_size _ _ (by decide) HI.n, fun z hz => nomatch hz⟩
  have HTx := fun w hw => tx_1 s q n aS aH aL ab b hS hH hL o t sp TA TH hfs HI hA hH' w hw
  have he := eq_1 s q n aS aH aL ab b hS hH hL o t sp TA TH
  cases hc : spC ⟨#[]⟩ 1 s q n aS aH aL ab b hS hH hL o t sp
  · refine ⟨⟨#[]⟩, fun w => st_no ⟨#[]⟩ (by decide) 1 s q n aS aH aL ab b hS hH hL o t sp HI.o has_1 hc w, fun w hw => (HTx w hw).mono ?_⟩
    rintro e w' ⟨⟨h1, rfl⟩ | ⟨h1, rfl⟩, hb⟩
    · rw [he, hc] at h1; cases h1
    · exact ⟨rfl, hb⟩
  · have hz := he.trans hc
    have hall : [((fT ⟨#[110, 111, 119]⟩ n), (rB 0 n 1000000000))].all (fun z => z.2) = true := (Bool.and_eq_true _ _ ▸ hz).2
    have rn : 0 ≤ n ∧ n ≤ 1000000000 := rB_bd (all_at hall 0 _ rfl)
    refine ⟨_, fun w => st_1 s q n aS aH aL ab b hS hH hL o t sp (Lib.itoa n) (dec_is n (by omega) (by omega)) HI.o hc w, fun w hw => (HTx w hw).mono ?_⟩
    rintro e w' ⟨⟨h1, rfl⟩ | ⟨h1, rfl⟩, hb⟩
    · exact ⟨ret_ba (jq_1 n _), hb⟩
    · rw [hz] at h1; cases h1
theorem jq_2 (s : Int) (n : Int) (b0 : Bool) (b1 : Bool) : jn ⟨#[99, 108, 111, 115, 101]⟩ [(fT ⟨#[115, 101, 115, 115, 105, 111, 110]⟩ s, b0), (fT ⟨#[110, 111, 119]⟩ n, b1)] = (((⟨#[99, 108, 111, 115, 101]⟩ : ByteArray) ++ (⟨#[32, 115, 101, 115, 115, 105, 111, 110, 61]⟩ : ByteArray) ++ ⟨(Lib.itoa s).toArray⟩) ++ (⟨#[32, 110, 111, 119, 61]⟩ : ByteArray) ++ ⟨(Lib.itoa n).toArray⟩) := by
  simp only [jn, List.foldl_cons, List.foldl_nil, fT]
  apply ByteArray.ext
  apply Array.ext'
  simp
theorem tb_2 (s q n : Int) (aS : Bool) (aH aL : BitVec 64) (ab b : Int) (hS : Bool) (hH hL : Int) (o : ByteArray) (t sp : Int) (HI : CmI s q n b t sp o) (bH : I6 hH) (bL : I6 hL) :
    ∃ T : ByteArray, (∀ w : World, Calls Tryd.prog 9 #[.agg #[.int .i64 2, .int .i64 s, .int .i64 q, .int .i64 n, .bool aS, .int .i64 aH.toInt, .int .i64 aL.toInt, .int .i64 ab, .int .i64 b, .bool hS, .int .i64 hH, .int .i64 hL, .string o, .int .i64 t, .int .i64 sp]] w fun e w' => e = .returned (.string T) ∧ Below w.heap.size w w') ∧
      (∀ w : World, Tabs w → Calls Tryd.prog 10 #[.agg #[.int .i64 2, .int .i64 s, .int .i64 q, .int .i64 n, .bool aS, .int .i64 aH.toInt, .int .i64 aL.toInt, .int .i64 ab, .int .i64 b, .bool hS, .int .i64 hH, .int .i64 hL, .string o, .int .i64 t, .int .i64 sp]] w fun e w' => e = .returned (.string T) ∧ Below w.heap.size w w') := by
  obtain ⟨TA, _, hA⟩ := ptxt2 aS aH aL ab
  obtain ⟨TH, hTl, _, hHi⟩ := text_bothP hS hH hL bH bL

  have hH' := And.intro (show TH.length ≤ 200 by omega) hHi
  have hfs : ∀ z ∈ [((fT ⟨#[115, 101, 115, 115, 105, 111, 110]⟩ s), (rB 1 s 1000000)), ((fT ⟨#[110, 111, 119]⟩ n), (rB 0 n 1000000000))], z.1.size ≤ 1048600 := List.forall_mem_cons.mpr ⟨fT_size _ _ (by decide) HI.s, List.forall_mem_cons.mpr ⟨fT_size _ _ (by decide) HI.n, fun z hz => nomatch hz⟩⟩
  have HTx := fun w hw => tx_2 s q n aS aH aL ab b hS hH hL o t sp TA TH hfs HI hA hH' w hw
  have he := eq_2 s q n aS aH aL ab b hS hH hL o t sp TA TH
  cases hc : spC ⟨#[115]⟩ 2 s q n aS aH aL ab b hS hH hL o t sp
  · refine ⟨⟨#[]⟩, fun w => st_no ⟨#[115]⟩ (by decide) 2 s q n aS aH aL ab b hS hH hL o t sp HI.o has_2 hc w, fun w hw => (HTx w hw).mono ?_⟩
    rintro e w' ⟨⟨h1, rfl⟩ | ⟨h1, rfl⟩, hb⟩
    · rw [he, hc] at h1; cases h1
    · exact ⟨rfl, hb⟩
  · have hz := he.trans hc
    have hall : [((fT ⟨#[115, 101, 115, 115, 105, 111, 110]⟩ s), (rB 1 s 1000000)), ((fT ⟨#[110, 111, 119]⟩ n), (rB 0 n 1000000000))].all (fun z => z.2) = true := (Bool.and_eq_true _ _ ▸ hz).2
    have rs : 1 ≤ s ∧ s ≤ 1000000 := rB_bd (all_at hall 0 _ rfl)
    have rn : 0 ≤ n ∧ n ≤ 1000000000 := rB_bd (all_at hall 1 _ rfl)
    refine ⟨_, fun w => st_2 s q n aS aH aL ab b hS hH hL o t sp (Lib.itoa s) (dec_is s (by omega) (by omega)) (Lib.itoa n) (dec_is n (by omega) (by omega)) HI.o hc w, fun w hw => (HTx w hw).mono ?_⟩
    rintro e w' ⟨⟨h1, rfl⟩ | ⟨h1, rfl⟩, hb⟩
    · exact ⟨ret_ba (jq_2 s n _ _), hb⟩
    · rw [hz] at h1; cases h1
theorem jq_3 (s : Int) (q : Int) (n : Int) (TA : List UInt8) (b : Int) (b0 : Bool) (b1 : Bool) (b2 : Bool) (b3 : Bool) (b4 : Bool) : jn ⟨#[97, 100, 100, 45, 112, 111, 111, 108]⟩ [(fT ⟨#[115, 101, 115, 115, 105, 111, 110]⟩ s, b0), (fT ⟨#[115, 101, 113]⟩ q, b1), (fT ⟨#[110, 111, 119]⟩ n, b2), (aT TA, b3), (fT ⟨#[98, 105, 116, 115]⟩ b, b4)] = ((((((⟨#[97, 100, 100, 45, 112, 111, 111, 108]⟩ : ByteArray) ++ (⟨#[32, 115, 101, 115, 115, 105, 111, 110, 61]⟩ : ByteArray) ++ ⟨(Lib.itoa s).toArray⟩) ++ (⟨#[32, 115, 101, 113, 61]⟩ : ByteArray) ++ ⟨(Lib.itoa q).toArray⟩) ++ (⟨#[32, 110, 111, 119, 61]⟩ : ByteArray) ++ ⟨(Lib.itoa n).toArray⟩) ++ (⟨#[32, 97, 116, 61]⟩ : ByteArray) ++ ⟨TA.toArray⟩) ++ (⟨#[32, 98, 105, 116, 115, 61]⟩ : ByteArray) ++ ⟨(Lib.itoa b).toArray⟩) := by
  simp only [jn, List.foldl_cons, List.foldl_nil, fT, aT]
  apply ByteArray.ext
  apply Array.ext'
  simp
theorem tb_3 (s q n : Int) (aS : Bool) (aH aL : BitVec 64) (ab b : Int) (hS : Bool) (hH hL : Int) (o : ByteArray) (t sp : Int) (HI : CmI s q n b t sp o) (bH : I6 hH) (bL : I6 hL) :
    ∃ T : ByteArray, (∀ w : World, Calls Tryd.prog 9 #[.agg #[.int .i64 3, .int .i64 s, .int .i64 q, .int .i64 n, .bool aS, .int .i64 aH.toInt, .int .i64 aL.toInt, .int .i64 ab, .int .i64 b, .bool hS, .int .i64 hH, .int .i64 hL, .string o, .int .i64 t, .int .i64 sp]] w fun e w' => e = .returned (.string T) ∧ Below w.heap.size w w') ∧
      (∀ w : World, Tabs w → Calls Tryd.prog 10 #[.agg #[.int .i64 3, .int .i64 s, .int .i64 q, .int .i64 n, .bool aS, .int .i64 aH.toInt, .int .i64 aL.toInt, .int .i64 ab, .int .i64 b, .bool hS, .int .i64 hH, .int .i64 hL, .string o, .int .i64 t, .int .i64 sp]] w fun e w' => e = .returned (.string T) ∧ Below w.heap.size w w') := by
  obtain ⟨TA, hAs, hA⟩ := ptxt2 aS aH aL ab
  obtain ⟨TH, hTl, _, hHi⟩ := text_bothP hS hH hL bH bL

  have hH' := And.intro (show TH.length ≤ 200 by omega) hHi
  have hfs : ∀ z ∈ [((fT ⟨#[115, 101, 115, 115, 105, 111, 110]⟩ s), (rB 1 s 1000000)), ((fT ⟨#[115, 101, 113]⟩ q), (rB 1 q 1000000)), ((fT ⟨#[110, 111, 119]⟩ n), (rB 0 n 1000000000)), ((aT TA), (pokB aS aH aL ab)), ((fT ⟨#[98, 105, 116, 115]⟩ b), (rB 0 b 128))], z.1.size ≤ 1048600 := List.forall_mem_cons.mpr ⟨fT_size _ _ (by decide) HI.s, List.forall_mem_cons.mpr ⟨fT_size _ _ (by decide) HI.q, List.forall_mem_cons.mpr ⟨fT_size _ _ (by decide) HI.n, List.forall_mem_cons.mpr ⟨aT_size TA hA.1, List.forall_mem_cons.mpr ⟨fT_size _ _ (by decide) HI.b, fun z hz => nomatch hz⟩⟩⟩⟩⟩
  have HTx := fun w hw => tx_3 s q n aS aH aL ab b hS hH hL o t sp TA TH hfs HI hA hH' w hw
  have he := eq_3 s q n aS aH aL ab b hS hH hL o t sp TA TH
  cases hc : spC ⟨#[115, 113, 97, 98]⟩ 3 s q n aS aH aL ab b hS hH hL o t sp
  · refine ⟨⟨#[]⟩, fun w => st_no ⟨#[115, 113, 97, 98]⟩ (by decide) 3 s q n aS aH aL ab b hS hH hL o t sp HI.o has_3 hc w, fun w hw => (HTx w hw).mono ?_⟩
    rintro e w' ⟨⟨h1, rfl⟩ | ⟨h1, rfl⟩, hb⟩
    · rw [he, hc] at h1; cases h1
    · exact ⟨rfl, hb⟩
  · have hz := he.trans hc
    have hall : [((fT ⟨#[115, 101, 115, 115, 105, 111, 110]⟩ s), (rB 1 s 1000000)), ((fT ⟨#[115, 101, 113]⟩ q), (rB 1 q 1000000)), ((fT ⟨#[110, 111, 119]⟩ n), (rB 0 n 1000000000)), ((aT TA), (pokB aS aH aL ab)), ((fT ⟨#[98, 105, 116, 115]⟩ b), (rB 0 b 128))].all (fun z => z.2) = true := (Bool.and_eq_true _ _ ▸ hz).2
    have rs : 1 ≤ s ∧ s ≤ 1000000 := rB_bd (all_at hall 0 _ rfl)
    have rq : 1 ≤ q ∧ q ≤ 1000000 := rB_bd (all_at hall 1 _ rfl)
    have rn : 0 ≤ n ∧ n ≤ 1000000000 := rB_bd (all_at hall 2 _ rfl)
    have rb : 0 ≤ b ∧ b ≤ 128 := rB_bd (all_at hall 4 _ rfl)
    refine ⟨_, fun w => st_3 s q n aS aH aL ab b hS hH hL o t sp (Lib.itoa s) (dec_is s (by omega) (by omega)) (Lib.itoa q) (dec_is q (by omega) (by omega)) (Lib.itoa n) (dec_is n (by omega) (by omega)) TA hAs (Lib.itoa b) (dec_is b (by omega) (by omega)) HI.o hc w, fun w hw => (HTx w hw).mono ?_⟩
    rintro e w' ⟨⟨h1, rfl⟩ | ⟨h1, rfl⟩, hb⟩
    · exact ⟨ret_ba (jq_3 s q n TA b _ _ _ _ _), hb⟩
    · rw [hz] at h1; cases h1
theorem jq_4 (s : Int) (q : Int) (n : Int) (TA : List UInt8) (b0 : Bool) (b1 : Bool) (b2 : Bool) (b3 : Bool) : jn ⟨#[100, 114, 111, 112, 45, 112, 111, 111, 108]⟩ [(fT ⟨#[115, 101, 115, 115, 105, 111, 110]⟩ s, b0), (fT ⟨#[115, 101, 113]⟩ q, b1), (fT ⟨#[110, 111, 119]⟩ n, b2), (aT TA, b3)] = (((((⟨#[100, 114, 111, 112, 45, 112, 111, 111, 108]⟩ : ByteArray) ++ (⟨#[32, 115, 101, 115, 115, 105, 111, 110, 61]⟩ : ByteArray) ++ ⟨(Lib.itoa s).toArray⟩) ++ (⟨#[32, 115, 101, 113, 61]⟩ : ByteArray) ++ ⟨(Lib.itoa q).toArray⟩) ++ (⟨#[32, 110, 111, 119, 61]⟩ : ByteArray) ++ ⟨(Lib.itoa n).toArray⟩) ++ (⟨#[32, 97, 116, 61]⟩ : ByteArray) ++ ⟨TA.toArray⟩) := by
  simp only [jn, List.foldl_cons, List.foldl_nil, fT, aT]
  apply ByteArray.ext
  apply Array.ext'
  simp
theorem tb_4 (s q n : Int) (aS : Bool) (aH aL : BitVec 64) (ab b : Int) (hS : Bool) (hH hL : Int) (o : ByteArray) (t sp : Int) (HI : CmI s q n b t sp o) (bH : I6 hH) (bL : I6 hL) :
    ∃ T : ByteArray, (∀ w : World, Calls Tryd.prog 9 #[.agg #[.int .i64 4, .int .i64 s, .int .i64 q, .int .i64 n, .bool aS, .int .i64 aH.toInt, .int .i64 aL.toInt, .int .i64 ab, .int .i64 b, .bool hS, .int .i64 hH, .int .i64 hL, .string o, .int .i64 t, .int .i64 sp]] w fun e w' => e = .returned (.string T) ∧ Below w.heap.size w w') ∧
      (∀ w : World, Tabs w → Calls Tryd.prog 10 #[.agg #[.int .i64 4, .int .i64 s, .int .i64 q, .int .i64 n, .bool aS, .int .i64 aH.toInt, .int .i64 aL.toInt, .int .i64 ab, .int .i64 b, .bool hS, .int .i64 hH, .int .i64 hL, .string o, .int .i64 t, .int .i64 sp]] w fun e w' => e = .returned (.string T) ∧ Below w.heap.size w w') := by
  obtain ⟨TA, hAs, hA⟩ := ptxt2 aS aH aL ab
  obtain ⟨TH, hTl, _, hHi⟩ := text_bothP hS hH hL bH bL

  have hH' := And.intro (show TH.length ≤ 200 by omega) hHi
  have hfs : ∀ z ∈ [((fT ⟨#[115, 101, 115, 115, 105, 111, 110]⟩ s), (rB 1 s 1000000)), ((fT ⟨#[115, 101, 113]⟩ q), (rB 1 q 1000000)), ((fT ⟨#[110, 111, 119]⟩ n), (rB 0 n 1000000000)), ((aT TA), (pokB aS aH aL ab))], z.1.size ≤ 1048600 := List.forall_mem_cons.mpr ⟨fT_size _ _ (by decide) HI.s, List.forall_mem_cons.mpr ⟨fT_size _ _ (by decide) HI.q, List.forall_mem_cons.mpr ⟨fT_size _ _ (by decide) HI.n, List.forall_mem_cons.mpr ⟨aT_size TA hA.1, fun z hz => nomatch hz⟩⟩⟩⟩
  have HTx := fun w hw => tx_4 s q n aS aH aL ab b hS hH hL o t sp TA TH hfs HI hA hH' w hw
  have he := eq_4 s q n aS aH aL ab b hS hH hL o t sp TA TH
  cases hc : spC ⟨#[115, 113, 97]⟩ 4 s q n aS aH aL ab b hS hH hL o t sp
  · refine ⟨⟨#[]⟩, fun w => st_no ⟨#[115, 113, 97]⟩ (by decide) 4 s q n aS aH aL ab b hS hH hL o t sp HI.o has_4 hc w, fun w hw => (HTx w hw).mono ?_⟩
    rintro e w' ⟨⟨h1, rfl⟩ | ⟨h1, rfl⟩, hb⟩
    · rw [he, hc] at h1; cases h1
    · exact ⟨rfl, hb⟩
  · have hz := he.trans hc
    have hall : [((fT ⟨#[115, 101, 115, 115, 105, 111, 110]⟩ s), (rB 1 s 1000000)), ((fT ⟨#[115, 101, 113]⟩ q), (rB 1 q 1000000)), ((fT ⟨#[110, 111, 119]⟩ n), (rB 0 n 1000000000)), ((aT TA), (pokB aS aH aL ab))].all (fun z => z.2) = true := (Bool.and_eq_true _ _ ▸ hz).2
    have rs : 1 ≤ s ∧ s ≤ 1000000 := rB_bd (all_at hall 0 _ rfl)
    have rq : 1 ≤ q ∧ q ≤ 1000000 := rB_bd (all_at hall 1 _ rfl)
    have rn : 0 ≤ n ∧ n ≤ 1000000000 := rB_bd (all_at hall 2 _ rfl)
    refine ⟨_, fun w => st_4 s q n aS aH aL ab b hS hH hL o t sp (Lib.itoa s) (dec_is s (by omega) (by omega)) (Lib.itoa q) (dec_is q (by omega) (by omega)) (Lib.itoa n) (dec_is n (by omega) (by omega)) TA hAs HI.o hc w, fun w hw => (HTx w hw).mono ?_⟩
    rintro e w' ⟨⟨h1, rfl⟩ | ⟨h1, rfl⟩, hb⟩
    · exact ⟨ret_ba (jq_4 s q n TA _ _ _ _), hb⟩
    · rw [hz] at h1; cases h1
theorem jq_5 (s : Int) (q : Int) (n : Int) (TA : List UInt8) (o : ByteArray) (b0 : Bool) (b1 : Bool) (b2 : Bool) (b3 : Bool) (b4 : Bool) : jn ⟨#[99, 97, 114, 118, 101]⟩ [(fT ⟨#[115, 101, 115, 115, 105, 111, 110]⟩ s, b0), (fT ⟨#[115, 101, 113]⟩ q, b1), (fT ⟨#[110, 111, 119]⟩ n, b2), (aT TA, b3), (oT o, b4)] = ((((((⟨#[99, 97, 114, 118, 101]⟩ : ByteArray) ++ (⟨#[32, 115, 101, 115, 115, 105, 111, 110, 61]⟩ : ByteArray) ++ ⟨(Lib.itoa s).toArray⟩) ++ (⟨#[32, 115, 101, 113, 61]⟩ : ByteArray) ++ ⟨(Lib.itoa q).toArray⟩) ++ (⟨#[32, 110, 111, 119, 61]⟩ : ByteArray) ++ ⟨(Lib.itoa n).toArray⟩) ++ (⟨#[32, 97, 116, 61]⟩ : ByteArray) ++ ⟨TA.toArray⟩) ++ (⟨#[32, 111, 119, 110, 101, 114, 61]⟩ : ByteArray) ++ o) := by
  simp only [jn, List.foldl_cons, List.foldl_nil, fT, oT, aT]
  apply ByteArray.ext
  apply Array.ext'
  simp
theorem tb_5 (s q n : Int) (aS : Bool) (aH aL : BitVec 64) (ab b : Int) (hS : Bool) (hH hL : Int) (o : ByteArray) (t sp : Int) (HI : CmI s q n b t sp o) (bH : I6 hH) (bL : I6 hL) :
    ∃ T : ByteArray, (∀ w : World, Calls Tryd.prog 9 #[.agg #[.int .i64 5, .int .i64 s, .int .i64 q, .int .i64 n, .bool aS, .int .i64 aH.toInt, .int .i64 aL.toInt, .int .i64 ab, .int .i64 b, .bool hS, .int .i64 hH, .int .i64 hL, .string o, .int .i64 t, .int .i64 sp]] w fun e w' => e = .returned (.string T) ∧ Below w.heap.size w w') ∧
      (∀ w : World, Tabs w → Calls Tryd.prog 10 #[.agg #[.int .i64 5, .int .i64 s, .int .i64 q, .int .i64 n, .bool aS, .int .i64 aH.toInt, .int .i64 aL.toInt, .int .i64 ab, .int .i64 b, .bool hS, .int .i64 hH, .int .i64 hL, .string o, .int .i64 t, .int .i64 sp]] w fun e w' => e = .returned (.string T) ∧ Below w.heap.size w w') := by
  obtain ⟨TA, hAs, hA⟩ := ptxt2 aS aH aL ab
  obtain ⟨TH, hTl, _, hHi⟩ := text_bothP hS hH hL bH bL

  have hH' := And.intro (show TH.length ≤ 200 by omega) hHi
  have hfs : ∀ z ∈ [((fT ⟨#[115, 101, 115, 115, 105, 111, 110]⟩ s), (rB 1 s 1000000)), ((fT ⟨#[115, 101, 113]⟩ q), (rB 1 q 1000000)), ((fT ⟨#[110, 111, 119]⟩ n), (rB 0 n 1000000000)), ((aT TA), (pokB aS aH aL ab)), ((oT o), (ownB o))], z.1.size ≤ 1048600 := List.forall_mem_cons.mpr ⟨fT_size _ _ (by decide) HI.s, List.forall_mem_cons.mpr ⟨fT_size _ _ (by decide) HI.q, List.forall_mem_cons.mpr ⟨fT_size _ _ (by decide) HI.n, List.forall_mem_cons.mpr ⟨aT_size TA hA.1, List.forall_mem_cons.mpr ⟨oT_size o HI.o, fun z hz => nomatch hz⟩⟩⟩⟩⟩
  have HTx := fun w hw => tx_5 s q n aS aH aL ab b hS hH hL o t sp TA TH hfs HI hA hH' w hw
  have he := eq_5 s q n aS aH aL ab b hS hH hL o t sp TA TH
  cases hc : spC ⟨#[115, 113, 97, 111]⟩ 5 s q n aS aH aL ab b hS hH hL o t sp
  · refine ⟨⟨#[]⟩, fun w => st_no ⟨#[115, 113, 97, 111]⟩ (by decide) 5 s q n aS aH aL ab b hS hH hL o t sp HI.o has_5 hc w, fun w hw => (HTx w hw).mono ?_⟩
    rintro e w' ⟨⟨h1, rfl⟩ | ⟨h1, rfl⟩, hb⟩
    · rw [he, hc] at h1; cases h1
    · exact ⟨rfl, hb⟩
  · have hz := he.trans hc
    have hall : [((fT ⟨#[115, 101, 115, 115, 105, 111, 110]⟩ s), (rB 1 s 1000000)), ((fT ⟨#[115, 101, 113]⟩ q), (rB 1 q 1000000)), ((fT ⟨#[110, 111, 119]⟩ n), (rB 0 n 1000000000)), ((aT TA), (pokB aS aH aL ab)), ((oT o), (ownB o))].all (fun z => z.2) = true := (Bool.and_eq_true _ _ ▸ hz).2
    have rs : 1 ≤ s ∧ s ≤ 1000000 := rB_bd (all_at hall 0 _ rfl)
    have rq : 1 ≤ q ∧ q ≤ 1000000 := rB_bd (all_at hall 1 _ rfl)
    have rn : 0 ≤ n ∧ n ≤ 1000000000 := rB_bd (all_at hall 2 _ rfl)
    refine ⟨_, fun w => st_5 s q n aS aH aL ab b hS hH hL o t sp (Lib.itoa s) (dec_is s (by omega) (by omega)) (Lib.itoa q) (dec_is q (by omega) (by omega)) (Lib.itoa n) (dec_is n (by omega) (by omega)) TA hAs HI.o hc w, fun w hw => (HTx w hw).mono ?_⟩
    rintro e w' ⟨⟨h1, rfl⟩ | ⟨h1, rfl⟩, hb⟩
    · exact ⟨ret_ba (jq_5 s q n TA o _ _ _ _ _), hb⟩
    · rw [hz] at h1; cases h1
theorem jq_6 (s : Int) (q : Int) (n : Int) (TA : List UInt8) (o : ByteArray) (b0 : Bool) (b1 : Bool) (b2 : Bool) (b3 : Bool) (b4 : Bool) : jn ⟨#[102, 114, 101, 101]⟩ [(fT ⟨#[115, 101, 115, 115, 105, 111, 110]⟩ s, b0), (fT ⟨#[115, 101, 113]⟩ q, b1), (fT ⟨#[110, 111, 119]⟩ n, b2), (aT TA, b3), (oT o, b4)] = ((((((⟨#[102, 114, 101, 101]⟩ : ByteArray) ++ (⟨#[32, 115, 101, 115, 115, 105, 111, 110, 61]⟩ : ByteArray) ++ ⟨(Lib.itoa s).toArray⟩) ++ (⟨#[32, 115, 101, 113, 61]⟩ : ByteArray) ++ ⟨(Lib.itoa q).toArray⟩) ++ (⟨#[32, 110, 111, 119, 61]⟩ : ByteArray) ++ ⟨(Lib.itoa n).toArray⟩) ++ (⟨#[32, 97, 116, 61]⟩ : ByteArray) ++ ⟨TA.toArray⟩) ++ (⟨#[32, 111, 119, 110, 101, 114, 61]⟩ : ByteArray) ++ o) := by
  simp only [jn, List.foldl_cons, List.foldl_nil, fT, oT, aT]
  apply ByteArray.ext
  apply Array.ext'
  simp
theorem tb_6 (s q n : Int) (aS : Bool) (aH aL : BitVec 64) (ab b : Int) (hS : Bool) (hH hL : Int) (o : ByteArray) (t sp : Int) (HI : CmI s q n b t sp o) (bH : I6 hH) (bL : I6 hL) :
    ∃ T : ByteArray, (∀ w : World, Calls Tryd.prog 9 #[.agg #[.int .i64 6, .int .i64 s, .int .i64 q, .int .i64 n, .bool aS, .int .i64 aH.toInt, .int .i64 aL.toInt, .int .i64 ab, .int .i64 b, .bool hS, .int .i64 hH, .int .i64 hL, .string o, .int .i64 t, .int .i64 sp]] w fun e w' => e = .returned (.string T) ∧ Below w.heap.size w w') ∧
      (∀ w : World, Tabs w → Calls Tryd.prog 10 #[.agg #[.int .i64 6, .int .i64 s, .int .i64 q, .int .i64 n, .bool aS, .int .i64 aH.toInt, .int .i64 aL.toInt, .int .i64 ab, .int .i64 b, .bool hS, .int .i64 hH, .int .i64 hL, .string o, .int .i64 t, .int .i64 sp]] w fun e w' => e = .returned (.string T) ∧ Below w.heap.size w w') := by
  obtain ⟨TA, hAs, hA⟩ := ptxt2 aS aH aL ab
  obtain ⟨TH, hTl, _, hHi⟩ := text_bothP hS hH hL bH bL

  have hH' := And.intro (show TH.length ≤ 200 by omega) hHi
  have hfs : ∀ z ∈ [((fT ⟨#[115, 101, 115, 115, 105, 111, 110]⟩ s), (rB 1 s 1000000)), ((fT ⟨#[115, 101, 113]⟩ q), (rB 1 q 1000000)), ((fT ⟨#[110, 111, 119]⟩ n), (rB 0 n 1000000000)), ((aT TA), (pokB aS aH aL ab)), ((oT o), (ownB o))], z.1.size ≤ 1048600 := List.forall_mem_cons.mpr ⟨fT_size _ _ (by decide) HI.s, List.forall_mem_cons.mpr ⟨fT_size _ _ (by decide) HI.q, List.forall_mem_cons.mpr ⟨fT_size _ _ (by decide) HI.n, List.forall_mem_cons.mpr ⟨aT_size TA hA.1, List.forall_mem_cons.mpr ⟨oT_size o HI.o, fun z hz => nomatch hz⟩⟩⟩⟩⟩
  have HTx := fun w hw => tx_6 s q n aS aH aL ab b hS hH hL o t sp TA TH hfs HI hA hH' w hw
  have he := eq_6 s q n aS aH aL ab b hS hH hL o t sp TA TH
  cases hc : spC ⟨#[115, 113, 97, 111]⟩ 6 s q n aS aH aL ab b hS hH hL o t sp
  · refine ⟨⟨#[]⟩, fun w => st_no ⟨#[115, 113, 97, 111]⟩ (by decide) 6 s q n aS aH aL ab b hS hH hL o t sp HI.o has_6 hc w, fun w hw => (HTx w hw).mono ?_⟩
    rintro e w' ⟨⟨h1, rfl⟩ | ⟨h1, rfl⟩, hb⟩
    · rw [he, hc] at h1; cases h1
    · exact ⟨rfl, hb⟩
  · have hz := he.trans hc
    have hall : [((fT ⟨#[115, 101, 115, 115, 105, 111, 110]⟩ s), (rB 1 s 1000000)), ((fT ⟨#[115, 101, 113]⟩ q), (rB 1 q 1000000)), ((fT ⟨#[110, 111, 119]⟩ n), (rB 0 n 1000000000)), ((aT TA), (pokB aS aH aL ab)), ((oT o), (ownB o))].all (fun z => z.2) = true := (Bool.and_eq_true _ _ ▸ hz).2
    have rs : 1 ≤ s ∧ s ≤ 1000000 := rB_bd (all_at hall 0 _ rfl)
    have rq : 1 ≤ q ∧ q ≤ 1000000 := rB_bd (all_at hall 1 _ rfl)
    have rn : 0 ≤ n ∧ n ≤ 1000000000 := rB_bd (all_at hall 2 _ rfl)
    refine ⟨_, fun w => st_6 s q n aS aH aL ab b hS hH hL o t sp (Lib.itoa s) (dec_is s (by omega) (by omega)) (Lib.itoa q) (dec_is q (by omega) (by omega)) (Lib.itoa n) (dec_is n (by omega) (by omega)) TA hAs HI.o hc w, fun w hw => (HTx w hw).mono ?_⟩
    rintro e w' ⟨⟨h1, rfl⟩ | ⟨h1, rfl⟩, hb⟩
    · exact ⟨ret_ba (jq_6 s q n TA o _ _ _ _ _), hb⟩
    · rw [hz] at h1; cases h1
theorem jq_7 (s : Int) (q : Int) (n : Int) (TA : List UInt8) (o : ByteArray) (sp : Int) (b0 : Bool) (b1 : Bool) (b2 : Bool) (b3 : Bool) (b4 : Bool) (b5 : Bool) : jn ⟨#[103, 114, 97, 110, 116]⟩ [(fT ⟨#[115, 101, 115, 115, 105, 111, 110]⟩ s, b0), (fT ⟨#[115, 101, 113]⟩ q, b1), (fT ⟨#[110, 111, 119]⟩ n, b2), (aT TA, b3), (oT o, b4), (fT ⟨#[115, 112, 97, 110]⟩ sp, b5)] = (((((((⟨#[103, 114, 97, 110, 116]⟩ : ByteArray) ++ (⟨#[32, 115, 101, 115, 115, 105, 111, 110, 61]⟩ : ByteArray) ++ ⟨(Lib.itoa s).toArray⟩) ++ (⟨#[32, 115, 101, 113, 61]⟩ : ByteArray) ++ ⟨(Lib.itoa q).toArray⟩) ++ (⟨#[32, 110, 111, 119, 61]⟩ : ByteArray) ++ ⟨(Lib.itoa n).toArray⟩) ++ (⟨#[32, 97, 116, 61]⟩ : ByteArray) ++ ⟨TA.toArray⟩) ++ (⟨#[32, 111, 119, 110, 101, 114, 61]⟩ : ByteArray) ++ o) ++ (⟨#[32, 115, 112, 97, 110, 61]⟩ : ByteArray) ++ ⟨(Lib.itoa sp).toArray⟩) := by
  simp only [jn, List.foldl_cons, List.foldl_nil, fT, oT, aT]
  apply ByteArray.ext
  apply Array.ext'
  simp
theorem tb_7 (s q n : Int) (aS : Bool) (aH aL : BitVec 64) (ab b : Int) (hS : Bool) (hH hL : Int) (o : ByteArray) (t sp : Int) (HI : CmI s q n b t sp o) (bH : I6 hH) (bL : I6 hL) :
    ∃ T : ByteArray, (∀ w : World, Calls Tryd.prog 9 #[.agg #[.int .i64 7, .int .i64 s, .int .i64 q, .int .i64 n, .bool aS, .int .i64 aH.toInt, .int .i64 aL.toInt, .int .i64 ab, .int .i64 b, .bool hS, .int .i64 hH, .int .i64 hL, .string o, .int .i64 t, .int .i64 sp]] w fun e w' => e = .returned (.string T) ∧ Below w.heap.size w w') ∧
      (∀ w : World, Tabs w → Calls Tryd.prog 10 #[.agg #[.int .i64 7, .int .i64 s, .int .i64 q, .int .i64 n, .bool aS, .int .i64 aH.toInt, .int .i64 aL.toInt, .int .i64 ab, .int .i64 b, .bool hS, .int .i64 hH, .int .i64 hL, .string o, .int .i64 t, .int .i64 sp]] w fun e w' => e = .returned (.string T) ∧ Below w.heap.size w w') := by
  obtain ⟨TA, hAs, hA⟩ := ptxt2 aS aH aL ab
  obtain ⟨TH, hTl, _, hHi⟩ := text_bothP hS hH hL bH bL

  have hH' := And.intro (show TH.length ≤ 200 by omega) hHi
  have hfs : ∀ z ∈ [((fT ⟨#[115, 101, 115, 115, 105, 111, 110]⟩ s), (rB 1 s 1000000)), ((fT ⟨#[115, 101, 113]⟩ q), (rB 1 q 1000000)), ((fT ⟨#[110, 111, 119]⟩ n), (rB 0 n 1000000000)), ((aT TA), (pokB aS aH aL ab)), ((oT o), (ownB o)), ((fT ⟨#[115, 112, 97, 110]⟩ sp), (rB 1 sp 1000))], z.1.size ≤ 1048600 := List.forall_mem_cons.mpr ⟨fT_size _ _ (by decide) HI.s, List.forall_mem_cons.mpr ⟨fT_size _ _ (by decide) HI.q, List.forall_mem_cons.mpr ⟨fT_size _ _ (by decide) HI.n, List.forall_mem_cons.mpr ⟨aT_size TA hA.1, List.forall_mem_cons.mpr ⟨oT_size o HI.o, List.forall_mem_cons.mpr ⟨fT_size _ _ (by decide) HI.p, fun z hz => nomatch hz⟩⟩⟩⟩⟩⟩
  have HTx := fun w hw => tx_7 s q n aS aH aL ab b hS hH hL o t sp TA TH hfs HI hA hH' w hw
  have he := eq_7 s q n aS aH aL ab b hS hH hL o t sp TA TH
  cases hc : spC ⟨#[115, 113, 97, 111, 112]⟩ 7 s q n aS aH aL ab b hS hH hL o t sp
  · refine ⟨⟨#[]⟩, fun w => st_no ⟨#[115, 113, 97, 111, 112]⟩ (by decide) 7 s q n aS aH aL ab b hS hH hL o t sp HI.o has_7 hc w, fun w hw => (HTx w hw).mono ?_⟩
    rintro e w' ⟨⟨h1, rfl⟩ | ⟨h1, rfl⟩, hb⟩
    · rw [he, hc] at h1; cases h1
    · exact ⟨rfl, hb⟩
  · have hz := he.trans hc
    have hall : [((fT ⟨#[115, 101, 115, 115, 105, 111, 110]⟩ s), (rB 1 s 1000000)), ((fT ⟨#[115, 101, 113]⟩ q), (rB 1 q 1000000)), ((fT ⟨#[110, 111, 119]⟩ n), (rB 0 n 1000000000)), ((aT TA), (pokB aS aH aL ab)), ((oT o), (ownB o)), ((fT ⟨#[115, 112, 97, 110]⟩ sp), (rB 1 sp 1000))].all (fun z => z.2) = true := (Bool.and_eq_true _ _ ▸ hz).2
    have rs : 1 ≤ s ∧ s ≤ 1000000 := rB_bd (all_at hall 0 _ rfl)
    have rq : 1 ≤ q ∧ q ≤ 1000000 := rB_bd (all_at hall 1 _ rfl)
    have rn : 0 ≤ n ∧ n ≤ 1000000000 := rB_bd (all_at hall 2 _ rfl)
    have rp : 1 ≤ sp ∧ sp ≤ 1000 := rB_bd (all_at hall 5 _ rfl)
    refine ⟨_, fun w => st_7 s q n aS aH aL ab b hS hH hL o t sp (Lib.itoa s) (dec_is s (by omega) (by omega)) (Lib.itoa q) (dec_is q (by omega) (by omega)) (Lib.itoa n) (dec_is n (by omega) (by omega)) TA hAs (Lib.itoa sp) (dec_is sp (by omega) (by omega)) HI.o hc w, fun w hw => (HTx w hw).mono ?_⟩
    rintro e w' ⟨⟨h1, rfl⟩ | ⟨h1, rfl⟩, hb⟩
    · exact ⟨ret_ba (jq_7 s q n TA o sp _ _ _ _ _ _), hb⟩
    · rw [hz] at h1; cases h1
theorem jq_8 (s : Int) (q : Int) (n : Int) (TH : List UInt8) (o : ByteArray) (sp : Int) (b0 : Bool) (b1 : Bool) (b2 : Bool) (b3 : Bool) (b4 : Bool) (b5 : Bool) : jn ⟨#[116, 97, 107, 101]⟩ [(fT ⟨#[115, 101, 115, 115, 105, 111, 110]⟩ s, b0), (fT ⟨#[115, 101, 113]⟩ q, b1), (fT ⟨#[110, 111, 119]⟩ n, b2), (hT TH, b3), (oT o, b4), (fT ⟨#[115, 112, 97, 110]⟩ sp, b5)] = (((((((⟨#[116, 97, 107, 101]⟩ : ByteArray) ++ (⟨#[32, 115, 101, 115, 115, 105, 111, 110, 61]⟩ : ByteArray) ++ ⟨(Lib.itoa s).toArray⟩) ++ (⟨#[32, 115, 101, 113, 61]⟩ : ByteArray) ++ ⟨(Lib.itoa q).toArray⟩) ++ (⟨#[32, 110, 111, 119, 61]⟩ : ByteArray) ++ ⟨(Lib.itoa n).toArray⟩) ++ (⟨#[32, 104, 111, 115, 116, 61]⟩ : ByteArray) ++ ⟨TH.toArray⟩) ++ (⟨#[32, 111, 119, 110, 101, 114, 61]⟩ : ByteArray) ++ o) ++ (⟨#[32, 115, 112, 97, 110, 61]⟩ : ByteArray) ++ ⟨(Lib.itoa sp).toArray⟩) := by
  simp only [jn, List.foldl_cons, List.foldl_nil, fT, oT, hT]
  apply ByteArray.ext
  apply Array.ext'
  simp
theorem tb_8 (s q n : Int) (aS : Bool) (aH aL : BitVec 64) (ab b : Int) (hS : Bool) (hH hL : Int) (o : ByteArray) (t sp : Int) (HI : CmI s q n b t sp o) (bH : I6 hH) (bL : I6 hL) :
    ∃ T : ByteArray, (∀ w : World, Calls Tryd.prog 9 #[.agg #[.int .i64 8, .int .i64 s, .int .i64 q, .int .i64 n, .bool aS, .int .i64 aH.toInt, .int .i64 aL.toInt, .int .i64 ab, .int .i64 b, .bool hS, .int .i64 hH, .int .i64 hL, .string o, .int .i64 t, .int .i64 sp]] w fun e w' => e = .returned (.string T) ∧ Below w.heap.size w w') ∧
      (∀ w : World, Tabs w → Calls Tryd.prog 10 #[.agg #[.int .i64 8, .int .i64 s, .int .i64 q, .int .i64 n, .bool aS, .int .i64 aH.toInt, .int .i64 aL.toInt, .int .i64 ab, .int .i64 b, .bool hS, .int .i64 hH, .int .i64 hL, .string o, .int .i64 t, .int .i64 sp]] w fun e w' => e = .returned (.string T) ∧ Below w.heap.size w w') := by
  obtain ⟨TA, _, hA⟩ := ptxt2 aS aH aL ab
  obtain ⟨TH, hTl, hHs0, hHi⟩ := text_bothP hS hH hL bH bL
  have hHs := And.intro (show TH.length ≤ 200 by omega) hHs0
  have hH' := And.intro (show TH.length ≤ 200 by omega) hHi
  have hfs : ∀ z ∈ [((fT ⟨#[115, 101, 115, 115, 105, 111, 110]⟩ s), (rB 1 s 1000000)), ((fT ⟨#[115, 101, 113]⟩ q), (rB 1 q 1000000)), ((fT ⟨#[110, 111, 119]⟩ n), (rB 0 n 1000000000)), ((hT TH), (okB hS hH hL)), ((oT o), (ownB o)), ((fT ⟨#[115, 112, 97, 110]⟩ sp), (rB 1 sp 1000))], z.1.size ≤ 1048600 := List.forall_mem_cons.mpr ⟨fT_size _ _ (by decide) HI.s, List.forall_mem_cons.mpr ⟨fT_size _ _ (by decide) HI.q, List.forall_mem_cons.mpr ⟨fT_size _ _ (by decide) HI.n, List.forall_mem_cons.mpr ⟨hT_size TH hH'.1, List.forall_mem_cons.mpr ⟨oT_size o HI.o, List.forall_mem_cons.mpr ⟨fT_size _ _ (by decide) HI.p, fun z hz => nomatch hz⟩⟩⟩⟩⟩⟩
  have HTx := fun w hw => tx_8 s q n aS aH aL ab b hS hH hL o t sp TA TH hfs HI hA hH' w hw
  have he := eq_8 s q n aS aH aL ab b hS hH hL o t sp TA TH
  cases hc : spC ⟨#[115, 113, 104, 111, 112]⟩ 8 s q n aS aH aL ab b hS hH hL o t sp
  · refine ⟨⟨#[]⟩, fun w => st_no ⟨#[115, 113, 104, 111, 112]⟩ (by decide) 8 s q n aS aH aL ab b hS hH hL o t sp HI.o has_8 hc w, fun w hw => (HTx w hw).mono ?_⟩
    rintro e w' ⟨⟨h1, rfl⟩ | ⟨h1, rfl⟩, hb⟩
    · rw [he, hc] at h1; cases h1
    · exact ⟨rfl, hb⟩
  · have hz := he.trans hc
    have hall : [((fT ⟨#[115, 101, 115, 115, 105, 111, 110]⟩ s), (rB 1 s 1000000)), ((fT ⟨#[115, 101, 113]⟩ q), (rB 1 q 1000000)), ((fT ⟨#[110, 111, 119]⟩ n), (rB 0 n 1000000000)), ((hT TH), (okB hS hH hL)), ((oT o), (ownB o)), ((fT ⟨#[115, 112, 97, 110]⟩ sp), (rB 1 sp 1000))].all (fun z => z.2) = true := (Bool.and_eq_true _ _ ▸ hz).2
    have rs : 1 ≤ s ∧ s ≤ 1000000 := rB_bd (all_at hall 0 _ rfl)
    have rq : 1 ≤ q ∧ q ≤ 1000000 := rB_bd (all_at hall 1 _ rfl)
    have rn : 0 ≤ n ∧ n ≤ 1000000000 := rB_bd (all_at hall 2 _ rfl)
    have rp : 1 ≤ sp ∧ sp ≤ 1000 := rB_bd (all_at hall 5 _ rfl)
    refine ⟨_, fun w => st_8 s q n aS aH aL ab b hS hH hL o t sp (Lib.itoa s) (dec_is s (by omega) (by omega)) (Lib.itoa q) (dec_is q (by omega) (by omega)) (Lib.itoa n) (dec_is n (by omega) (by omega)) TH hHs (Lib.itoa sp) (dec_is sp (by omega) (by omega)) HI.o hc w, fun w hw => (HTx w hw).mono ?_⟩
    rintro e w' ⟨⟨h1, rfl⟩ | ⟨h1, rfl⟩, hb⟩
    · exact ⟨ret_ba (jq_8 s q n TH o sp _ _ _ _ _ _), hb⟩
    · rw [hz] at h1; cases h1
theorem jq_9 (s : Int) (q : Int) (n : Int) (TH : List UInt8) (t : Int) (sp : Int) (b0 : Bool) (b1 : Bool) (b2 : Bool) (b3 : Bool) (b4 : Bool) (b5 : Bool) : jn ⟨#[114, 101, 110, 101, 119]⟩ [(fT ⟨#[115, 101, 115, 115, 105, 111, 110]⟩ s, b0), (fT ⟨#[115, 101, 113]⟩ q, b1), (fT ⟨#[110, 111, 119]⟩ n, b2), (hT TH, b3), (fT ⟨#[116, 111, 107, 101, 110]⟩ t, b4), (fT ⟨#[115, 112, 97, 110]⟩ sp, b5)] = (((((((⟨#[114, 101, 110, 101, 119]⟩ : ByteArray) ++ (⟨#[32, 115, 101, 115, 115, 105, 111, 110, 61]⟩ : ByteArray) ++ ⟨(Lib.itoa s).toArray⟩) ++ (⟨#[32, 115, 101, 113, 61]⟩ : ByteArray) ++ ⟨(Lib.itoa q).toArray⟩) ++ (⟨#[32, 110, 111, 119, 61]⟩ : ByteArray) ++ ⟨(Lib.itoa n).toArray⟩) ++ (⟨#[32, 104, 111, 115, 116, 61]⟩ : ByteArray) ++ ⟨TH.toArray⟩) ++ (⟨#[32, 116, 111, 107, 101, 110, 61]⟩ : ByteArray) ++ ⟨(Lib.itoa t).toArray⟩) ++ (⟨#[32, 115, 112, 97, 110, 61]⟩ : ByteArray) ++ ⟨(Lib.itoa sp).toArray⟩) := by
  simp only [jn, List.foldl_cons, List.foldl_nil, fT, hT]
  apply ByteArray.ext
  apply Array.ext'
  simp
theorem tb_9 (s q n : Int) (aS : Bool) (aH aL : BitVec 64) (ab b : Int) (hS : Bool) (hH hL : Int) (o : ByteArray) (t sp : Int) (HI : CmI s q n b t sp o) (bH : I6 hH) (bL : I6 hL) :
    ∃ T : ByteArray, (∀ w : World, Calls Tryd.prog 9 #[.agg #[.int .i64 9, .int .i64 s, .int .i64 q, .int .i64 n, .bool aS, .int .i64 aH.toInt, .int .i64 aL.toInt, .int .i64 ab, .int .i64 b, .bool hS, .int .i64 hH, .int .i64 hL, .string o, .int .i64 t, .int .i64 sp]] w fun e w' => e = .returned (.string T) ∧ Below w.heap.size w w') ∧
      (∀ w : World, Tabs w → Calls Tryd.prog 10 #[.agg #[.int .i64 9, .int .i64 s, .int .i64 q, .int .i64 n, .bool aS, .int .i64 aH.toInt, .int .i64 aL.toInt, .int .i64 ab, .int .i64 b, .bool hS, .int .i64 hH, .int .i64 hL, .string o, .int .i64 t, .int .i64 sp]] w fun e w' => e = .returned (.string T) ∧ Below w.heap.size w w') := by
  obtain ⟨TA, _, hA⟩ := ptxt2 aS aH aL ab
  obtain ⟨TH, hTl, hHs0, hHi⟩ := text_bothP hS hH hL bH bL
  have hHs := And.intro (show TH.length ≤ 200 by omega) hHs0
  have hH' := And.intro (show TH.length ≤ 200 by omega) hHi
  have hfs : ∀ z ∈ [((fT ⟨#[115, 101, 115, 115, 105, 111, 110]⟩ s), (rB 1 s 1000000)), ((fT ⟨#[115, 101, 113]⟩ q), (rB 1 q 1000000)), ((fT ⟨#[110, 111, 119]⟩ n), (rB 0 n 1000000000)), ((hT TH), (okB hS hH hL)), ((fT ⟨#[116, 111, 107, 101, 110]⟩ t), (rB 1 t 1000000000)), ((fT ⟨#[115, 112, 97, 110]⟩ sp), (rB 1 sp 1000))], z.1.size ≤ 1048600 := List.forall_mem_cons.mpr ⟨fT_size _ _ (by decide) HI.s, List.forall_mem_cons.mpr ⟨fT_size _ _ (by decide) HI.q, List.forall_mem_cons.mpr ⟨fT_size _ _ (by decide) HI.n, List.forall_mem_cons.mpr ⟨hT_size TH hH'.1, List.forall_mem_cons.mpr ⟨fT_size _ _ (by decide) HI.t, List.forall_mem_cons.mpr ⟨fT_size _ _ (by decide) HI.p, fun z hz => nomatch hz⟩⟩⟩⟩⟩⟩
  have HTx := fun w hw => tx_9 s q n aS aH aL ab b hS hH hL o t sp TA TH hfs HI hA hH' w hw
  have he := eq_9 s q n aS aH aL ab b hS hH hL o t sp TA TH
  cases hc : spC ⟨#[115, 113, 104, 116, 112]⟩ 9 s q n aS aH aL ab b hS hH hL o t sp
  · refine ⟨⟨#[]⟩, fun w => st_no ⟨#[115, 113, 104, 116, 112]⟩ (by decide) 9 s q n aS aH aL ab b hS hH hL o t sp HI.o has_9 hc w, fun w hw => (HTx w hw).mono ?_⟩
    rintro e w' ⟨⟨h1, rfl⟩ | ⟨h1, rfl⟩, hb⟩
    · rw [he, hc] at h1; cases h1
    · exact ⟨rfl, hb⟩
  · have hz := he.trans hc
    have hall : [((fT ⟨#[115, 101, 115, 115, 105, 111, 110]⟩ s), (rB 1 s 1000000)), ((fT ⟨#[115, 101, 113]⟩ q), (rB 1 q 1000000)), ((fT ⟨#[110, 111, 119]⟩ n), (rB 0 n 1000000000)), ((hT TH), (okB hS hH hL)), ((fT ⟨#[116, 111, 107, 101, 110]⟩ t), (rB 1 t 1000000000)), ((fT ⟨#[115, 112, 97, 110]⟩ sp), (rB 1 sp 1000))].all (fun z => z.2) = true := (Bool.and_eq_true _ _ ▸ hz).2
    have rs : 1 ≤ s ∧ s ≤ 1000000 := rB_bd (all_at hall 0 _ rfl)
    have rq : 1 ≤ q ∧ q ≤ 1000000 := rB_bd (all_at hall 1 _ rfl)
    have rn : 0 ≤ n ∧ n ≤ 1000000000 := rB_bd (all_at hall 2 _ rfl)
    have rt : 1 ≤ t ∧ t ≤ 1000000000 := rB_bd (all_at hall 4 _ rfl)
    have rp : 1 ≤ sp ∧ sp ≤ 1000 := rB_bd (all_at hall 5 _ rfl)
    refine ⟨_, fun w => st_9 s q n aS aH aL ab b hS hH hL o t sp (Lib.itoa s) (dec_is s (by omega) (by omega)) (Lib.itoa q) (dec_is q (by omega) (by omega)) (Lib.itoa n) (dec_is n (by omega) (by omega)) TH hHs (Lib.itoa t) (dec_is t (by omega) (by omega)) (Lib.itoa sp) (dec_is sp (by omega) (by omega)) HI.o hc w, fun w hw => (HTx w hw).mono ?_⟩
    rintro e w' ⟨⟨h1, rfl⟩ | ⟨h1, rfl⟩, hb⟩
    · exact ⟨ret_ba (jq_9 s q n TH t sp _ _ _ _ _ _), hb⟩
    · rw [hz] at h1; cases h1
theorem jq_10 (s : Int) (q : Int) (n : Int) (TH : List UInt8) (t : Int) (b0 : Bool) (b1 : Bool) (b2 : Bool) (b3 : Bool) (b4 : Bool) : jn ⟨#[114, 101, 108, 101, 97, 115, 101]⟩ [(fT ⟨#[115, 101, 115, 115, 105, 111, 110]⟩ s, b0), (fT ⟨#[115, 101, 113]⟩ q, b1), (fT ⟨#[110, 111, 119]⟩ n, b2), (hT TH, b3), (fT ⟨#[116, 111, 107, 101, 110]⟩ t, b4)] = ((((((⟨#[114, 101, 108, 101, 97, 115, 101]⟩ : ByteArray) ++ (⟨#[32, 115, 101, 115, 115, 105, 111, 110, 61]⟩ : ByteArray) ++ ⟨(Lib.itoa s).toArray⟩) ++ (⟨#[32, 115, 101, 113, 61]⟩ : ByteArray) ++ ⟨(Lib.itoa q).toArray⟩) ++ (⟨#[32, 110, 111, 119, 61]⟩ : ByteArray) ++ ⟨(Lib.itoa n).toArray⟩) ++ (⟨#[32, 104, 111, 115, 116, 61]⟩ : ByteArray) ++ ⟨TH.toArray⟩) ++ (⟨#[32, 116, 111, 107, 101, 110, 61]⟩ : ByteArray) ++ ⟨(Lib.itoa t).toArray⟩) := by
  simp only [jn, List.foldl_cons, List.foldl_nil, fT, hT]
  apply ByteArray.ext
  apply Array.ext'
  simp
theorem tb_10 (s q n : Int) (aS : Bool) (aH aL : BitVec 64) (ab b : Int) (hS : Bool) (hH hL : Int) (o : ByteArray) (t sp : Int) (HI : CmI s q n b t sp o) (bH : I6 hH) (bL : I6 hL) :
    ∃ T : ByteArray, (∀ w : World, Calls Tryd.prog 9 #[.agg #[.int .i64 10, .int .i64 s, .int .i64 q, .int .i64 n, .bool aS, .int .i64 aH.toInt, .int .i64 aL.toInt, .int .i64 ab, .int .i64 b, .bool hS, .int .i64 hH, .int .i64 hL, .string o, .int .i64 t, .int .i64 sp]] w fun e w' => e = .returned (.string T) ∧ Below w.heap.size w w') ∧
      (∀ w : World, Tabs w → Calls Tryd.prog 10 #[.agg #[.int .i64 10, .int .i64 s, .int .i64 q, .int .i64 n, .bool aS, .int .i64 aH.toInt, .int .i64 aL.toInt, .int .i64 ab, .int .i64 b, .bool hS, .int .i64 hH, .int .i64 hL, .string o, .int .i64 t, .int .i64 sp]] w fun e w' => e = .returned (.string T) ∧ Below w.heap.size w w') := by
  obtain ⟨TA, _, hA⟩ := ptxt2 aS aH aL ab
  obtain ⟨TH, hTl, hHs0, hHi⟩ := text_bothP hS hH hL bH bL
  have hHs := And.intro (show TH.length ≤ 200 by omega) hHs0
  have hH' := And.intro (show TH.length ≤ 200 by omega) hHi
  have hfs : ∀ z ∈ [((fT ⟨#[115, 101, 115, 115, 105, 111, 110]⟩ s), (rB 1 s 1000000)), ((fT ⟨#[115, 101, 113]⟩ q), (rB 1 q 1000000)), ((fT ⟨#[110, 111, 119]⟩ n), (rB 0 n 1000000000)), ((hT TH), (okB hS hH hL)), ((fT ⟨#[116, 111, 107, 101, 110]⟩ t), (rB 1 t 1000000000))], z.1.size ≤ 1048600 := List.forall_mem_cons.mpr ⟨fT_size _ _ (by decide) HI.s, List.forall_mem_cons.mpr ⟨fT_size _ _ (by decide) HI.q, List.forall_mem_cons.mpr ⟨fT_size _ _ (by decide) HI.n, List.forall_mem_cons.mpr ⟨hT_size TH hH'.1, List.forall_mem_cons.mpr ⟨fT_size _ _ (by decide) HI.t, fun z hz => nomatch hz⟩⟩⟩⟩⟩
  have HTx := fun w hw => tx_10 s q n aS aH aL ab b hS hH hL o t sp TA TH hfs HI hA hH' w hw
  have he := eq_10 s q n aS aH aL ab b hS hH hL o t sp TA TH
  cases hc : spC ⟨#[115, 113, 104, 116]⟩ 10 s q n aS aH aL ab b hS hH hL o t sp
  · refine ⟨⟨#[]⟩, fun w => st_no ⟨#[115, 113, 104, 116]⟩ (by decide) 10 s q n aS aH aL ab b hS hH hL o t sp HI.o has_10 hc w, fun w hw => (HTx w hw).mono ?_⟩
    rintro e w' ⟨⟨h1, rfl⟩ | ⟨h1, rfl⟩, hb⟩
    · rw [he, hc] at h1; cases h1
    · exact ⟨rfl, hb⟩
  · have hz := he.trans hc
    have hall : [((fT ⟨#[115, 101, 115, 115, 105, 111, 110]⟩ s), (rB 1 s 1000000)), ((fT ⟨#[115, 101, 113]⟩ q), (rB 1 q 1000000)), ((fT ⟨#[110, 111, 119]⟩ n), (rB 0 n 1000000000)), ((hT TH), (okB hS hH hL)), ((fT ⟨#[116, 111, 107, 101, 110]⟩ t), (rB 1 t 1000000000))].all (fun z => z.2) = true := (Bool.and_eq_true _ _ ▸ hz).2
    have rs : 1 ≤ s ∧ s ≤ 1000000 := rB_bd (all_at hall 0 _ rfl)
    have rq : 1 ≤ q ∧ q ≤ 1000000 := rB_bd (all_at hall 1 _ rfl)
    have rn : 0 ≤ n ∧ n ≤ 1000000000 := rB_bd (all_at hall 2 _ rfl)
    have rt : 1 ≤ t ∧ t ≤ 1000000000 := rB_bd (all_at hall 4 _ rfl)
    refine ⟨_, fun w => st_10 s q n aS aH aL ab b hS hH hL o t sp (Lib.itoa s) (dec_is s (by omega) (by omega)) (Lib.itoa q) (dec_is q (by omega) (by omega)) (Lib.itoa n) (dec_is n (by omega) (by omega)) TH hHs (Lib.itoa t) (dec_is t (by omega) (by omega)) HI.o hc w, fun w hw => (HTx w hw).mono ?_⟩
    rintro e w' ⟨⟨h1, rfl⟩ | ⟨h1, rfl⟩, hb⟩
    · exact ⟨ret_ba (jq_10 s q n TH t _ _ _ _ _), hb⟩
    · rw [hz] at h1; cases h1
theorem jq_11 (n : Int) (b0 : Bool) : jn ⟨#[116, 105, 109, 101]⟩ [(fT ⟨#[110, 111, 119]⟩ n, b0)] = ((⟨#[116, 105, 109, 101]⟩ : ByteArray) ++ (⟨#[32, 110, 111, 119, 61]⟩ : ByteArray) ++ ⟨(Lib.itoa n).toArray⟩) := by
  simp only [jn, List.foldl_cons, List.foldl_nil, fT]
  apply ByteArray.ext
  apply Array.ext'
  simp
theorem tb_11 (s q n : Int) (aS : Bool) (aH aL : BitVec 64) (ab b : Int) (hS : Bool) (hH hL : Int) (o : ByteArray) (t sp : Int) (HI : CmI s q n b t sp o) (bH : I6 hH) (bL : I6 hL) :
    ∃ T : ByteArray, (∀ w : World, Calls Tryd.prog 9 #[.agg #[.int .i64 11, .int .i64 s, .int .i64 q, .int .i64 n, .bool aS, .int .i64 aH.toInt, .int .i64 aL.toInt, .int .i64 ab, .int .i64 b, .bool hS, .int .i64 hH, .int .i64 hL, .string o, .int .i64 t, .int .i64 sp]] w fun e w' => e = .returned (.string T) ∧ Below w.heap.size w w') ∧
      (∀ w : World, Tabs w → Calls Tryd.prog 10 #[.agg #[.int .i64 11, .int .i64 s, .int .i64 q, .int .i64 n, .bool aS, .int .i64 aH.toInt, .int .i64 aL.toInt, .int .i64 ab, .int .i64 b, .bool hS, .int .i64 hH, .int .i64 hL, .string o, .int .i64 t, .int .i64 sp]] w fun e w' => e = .returned (.string T) ∧ Below w.heap.size w w') := by
  obtain ⟨TA, _, hA⟩ := ptxt2 aS aH aL ab
  obtain ⟨TH, hTl, _, hHi⟩ := text_bothP hS hH hL bH bL

  have hH' := And.intro (show TH.length ≤ 200 by omega) hHi
  have hfs : ∀ z ∈ [((fT ⟨#[110, 111, 119]⟩ n), (rB 0 n 1000000000))], z.1.size ≤ 1048600 := List.forall_mem_cons.mpr ⟨fT_size _ _ (by decide) HI.n, fun z hz => nomatch hz⟩
  have HTx := fun w hw => tx_11 s q n aS aH aL ab b hS hH hL o t sp TA TH hfs HI hA hH' w hw
  have he := eq_11 s q n aS aH aL ab b hS hH hL o t sp TA TH
  cases hc : spC ⟨#[]⟩ 11 s q n aS aH aL ab b hS hH hL o t sp
  · refine ⟨⟨#[]⟩, fun w => st_no ⟨#[]⟩ (by decide) 11 s q n aS aH aL ab b hS hH hL o t sp HI.o has_11 hc w, fun w hw => (HTx w hw).mono ?_⟩
    rintro e w' ⟨⟨h1, rfl⟩ | ⟨h1, rfl⟩, hb⟩
    · rw [he, hc] at h1; cases h1
    · exact ⟨rfl, hb⟩
  · have hz := he.trans hc
    have hall : [((fT ⟨#[110, 111, 119]⟩ n), (rB 0 n 1000000000))].all (fun z => z.2) = true := (Bool.and_eq_true _ _ ▸ hz).2
    have rn : 0 ≤ n ∧ n ≤ 1000000000 := rB_bd (all_at hall 0 _ rfl)
    refine ⟨_, fun w => st_11 s q n aS aH aL ab b hS hH hL o t sp (Lib.itoa n) (dec_is n (by omega) (by omega)) HI.o hc w, fun w hw => (HTx w hw).mono ?_⟩
    rintro e w' ⟨⟨h1, rfl⟩ | ⟨h1, rfl⟩, hb⟩
    · exact ⟨ret_ba (jq_11 n _), hb⟩
    · rw [hz] at h1; cases h1

set_option maxHeartbeats 1000000 in
theorem tx_no (k : Int) (s q n : Int) (aS : Bool) (aH aL : BitVec 64) (ab b : Int) (hS : Bool) (hH hL : Int) (o : ByteArray) (t sp : Int) (hr : ∀ w : World, Calls Tryd.prog 20 #[.agg #[.int .i64 k, .int .i64 s, .int .i64 q, .int .i64 n, .bool aS, .int .i64 aH.toInt, .int .i64 aL.toInt, .int .i64 ab, .int .i64 b, .bool hS, .int .i64 hH, .int .i64 hL, .string o, .int .i64 t, .int .i64 sp]] w fun e w' => e = .returned (.tuple #[.nilIface, .bool false]) ∧ Below w.heap.size w w') (y : World) :
    Calls Tryd.prog 10 #[.agg #[.int .i64 k, .int .i64 s, .int .i64 q, .int .i64 n, .bool aS, .int .i64 aH.toInt, .int .i64 aL.toInt, .int .i64 ab, .int .i64 b, .bool hS, .int .i64 hH, .int .i64 hL, .string o, .int .i64 t, .int .i64 sp]] y fun e w' => e = .returned (.string ⟨#[]⟩) ∧ Below y.heap.size y w' := by
  have HR := hidP hr
  have HU := hidP ((Below.refl y.heap.size y).alloc (Nat.le_refl _) (.cells #[.int .i64 k, .int .i64 s, .int .i64 q, .int .i64 n, .bool aS, .int .i64 aH.toInt, .int .i64 aL.toInt, .int .i64 ab, .int .i64 b, .bool hS, .int .i64 hH, .int .i64 hL, .string o, .int .i64 t, .int .i64 sp] 34))
  clear hr
  go_enter Tryd.func10, Tryd.ntmps10
  go_wp2_with fail
  refine (HR.out _).mono ?_
  rintro e w1 ⟨rfl, hb⟩
  have HB := hidP (HU.out.trans (hb.mono HU.out.size))
  clear hb
  go_wp2_with fail
  go_ret
  exact ⟨rfl, HB.out⟩

theorem text_both (k : Int) (s q n : Int) (aS : Bool) (aH aL : BitVec 64) (ab b : Int) (hS : Bool) (hH hL : Int) (o : ByteArray) (t sp : Int) (HI : CmI s q n b t sp o) (bH : I6 hH) (bL : I6 hL) :
    ∃ T : ByteArray, (∀ w : World, Calls Tryd.prog 9 #[.agg #[.int .i64 k, .int .i64 s, .int .i64 q, .int .i64 n, .bool aS, .int .i64 aH.toInt, .int .i64 aL.toInt, .int .i64 ab, .int .i64 b, .bool hS, .int .i64 hH, .int .i64 hL, .string o, .int .i64 t, .int .i64 sp]] w fun e w' => e = .returned (.string T) ∧ Below w.heap.size w w') ∧
      (∀ w : World, Tabs w → Calls Tryd.prog 10 #[.agg #[.int .i64 k, .int .i64 s, .int .i64 q, .int .i64 n, .bool aS, .int .i64 aH.toInt, .int .i64 aL.toInt, .int .i64 ab, .int .i64 b, .bool hS, .int .i64 hH, .int .i64 hL, .string o, .int .i64 t, .int .i64 sp]] w fun e w' => e = .returned (.string T) ∧ Below w.heap.size w w') := by
  by_cases e1 : k = 1
  · subst e1; exact tb_1 s q n aS aH aL ab b hS hH hL o t sp HI bH bL
  by_cases e2 : k = 2
  · subst e2; exact tb_2 s q n aS aH aL ab b hS hH hL o t sp HI bH bL
  by_cases e3 : k = 3
  · subst e3; exact tb_3 s q n aS aH aL ab b hS hH hL o t sp HI bH bL
  by_cases e4 : k = 4
  · subst e4; exact tb_4 s q n aS aH aL ab b hS hH hL o t sp HI bH bL
  by_cases e5 : k = 5
  · subst e5; exact tb_5 s q n aS aH aL ab b hS hH hL o t sp HI bH bL
  by_cases e6 : k = 6
  · subst e6; exact tb_6 s q n aS aH aL ab b hS hH hL o t sp HI bH bL
  by_cases e7 : k = 7
  · subst e7; exact tb_7 s q n aS aH aL ab b hS hH hL o t sp HI bH bL
  by_cases e8 : k = 8
  · subst e8; exact tb_8 s q n aS aH aL ab b hS hH hL o t sp HI bH bL
  by_cases e9 : k = 9
  · subst e9; exact tb_9 s q n aS aH aL ab b hS hH hL o t sp HI bH bL
  by_cases e10 : k = 10
  · subst e10; exact tb_10 s q n aS aH aL ab b hS hH hL o t sp HI bH bL
  by_cases e11 : k = 11
  · subst e11; exact tb_11 s q n aS aH aL ab b hS hH hL o t sp HI bH bL
  have hz : spC ⟨#[]⟩ k s q n aS aH aL ab b hS hH hL o t sp = false := by
    unfold spC
    have : rB 1 k 11 = false := by unfold rB; rw [Bool.and_eq_false_iff, decide_eq_false_iff_not, decide_eq_false_iff_not]; omega
    rw [this, Bool.false_and]
  refine ⟨⟨#[]⟩, fun w => st_no ⟨#[]⟩ (by decide) k s q n aS aH aL ab b hS hH hL o t sp HI.o (fun w => has_no k w (by simp [e2]) (by simp [e3]) (by simp [e4]) (by simp [e5]) (by simp [e6]) (by simp [e7]) (by simp [e8]) (by simp [e9]) (by simp [e10])) hz w, fun w _ => tx_no k s q n aS aH aL ab b hS hH hL o t sp (fun w => ?_) w⟩
  exact ro_no k s q n aS aH aL ab b hS hH hL o t sp w (by simp [e1]) (by simp [e2]) (by simp [e3]) (by simp [e4]) (by simp [e5]) (by simp [e6]) (by simp [e7]) (by simp [e8]) (by simp [e9]) (by simp [e10]) (by simp [e11])

end Go.Proofs.YtoadckdokdcppaaDoor

namespace Go.Proofs.YtoadckdokdcppaaDoor
open Go.RowKit

set_option maxRecDepth 10000 in
set_option maxHeartbeats 4000000 in
theorem toCmd_any (k : Int) (s q n : Int) (aS : Bool) (aH aL : BitVec 64) (ab b : Int) (hS : Bool) (hH hL : Int) (o : ByteArray) (t sp : Int) (y : World) :
    Calls Tryd.prog 7 #[.agg #[.int .i64 k, .int .i64 s, .int .i64 q, .int .i64 n, .bool aS, .int .i64 aH.toInt, .int .i64 aL.toInt, .int .i64 ab, .int .i64 b, .bool hS, .int .i64 hH, .int .i64 hL, .string o, .int .i64 t, .int .i64 sp]] y fun e w' => e = .returned (.agg #[.int .i64 k, .int .i64 s, .int .i64 q, .int .i64 n, .bool aS, .int .i64 aH.toInt, .int .i64 aL.toInt, .int .i64 ab, .int .i64 b, .bool hS, .int .i64 hH, .int .i64 hL, .string o, .int .i64 t, .int .i64 sp]) ∧ Below y.heap.size y w' := by
  have HP := hidP (toPrefix_any aS aH.toInt aL.toInt ab)
  have HA := hidP (toAddr_any hS hH hL)
  go_enter Tryd.func7, Tryd.ntmps7
  go_wp2_with fail
  refine (HP.out _).mono ?_
  rintro e w1 ⟨rfl, hb1⟩
  obtain ⟨hc1, hf1⟩ := olds (n := y.heap.size + 3) (hb1.mono (by simp))
  have l1 : y.heap.size + 3 ≤ w1.heap.size := by have := hb1.size; simp at this; omega
  have z0 : y.heap.size < w1.heap.size := by omega
  have z1 : y.heap.size + 1 < w1.heap.size := by omega
  have z2 : y.heap.size + 1 + 1 < w1.heap.size := by omega
  have HB1 : Hid (Below y.heap.size y w1) := hidP (Below.trans (by repeat (first | with_reducible exact Below.refl _ _ | (with_reducible refine Below.setCell ?_ (by first | omega | (simp; done) | (simp; omega)) _) | (with_reducible refine Below.alloc ?_ (by first | omega | (simp; done) | (simp; omega)) _))) (hb1.mono (by simp; omega)))
  clear hb1
  go_wp2_with fail
  refine (HA.out _).mono ?_
  rintro e w2 ⟨rfl, hb2⟩
  obtain ⟨hc2, hf2⟩ := olds (n := y.heap.size + 3) (hb2.mono (by simp; omega))
  have l2 : y.heap.size + 3 ≤ w2.heap.size := by have := hb2.size; simp at this; omega
  have y0 : y.heap.size < w2.heap.size := by omega
  have y1 : y.heap.size + 1 < w2.heap.size := by omega
  have y2 : y.heap.size + 1 + 1 < w2.heap.size := by omega
  have HB2 : Hid (Below y.heap.size y w2) := hidP (Below.trans (by repeat (first | with_reducible exact HB1.out | (with_reducible refine Below.setCell ?_ (by first | omega | (simp; done) | (simp; omega)) _))) (hb2.mono (by simp; omega)))
  clear hb2
  go_wp2_with fail
  refine bodyPost_ret (v := .agg #[.int .i64 k, .int .i64 s, .int .i64 q, .int .i64 n, .bool aS, .int .i64 aH.toInt, .int .i64 aL.toInt, .int .i64 ab, .int .i64 b, .bool hS, .int .i64 hH, .int .i64 hL, .string o, .int .i64 t, .int .i64 sp]) (by simp [results, Tryd.results7, go_sem, hc1, hc2]) rfl ⟨rfl, ?_⟩
  repeat (first | with_reducible exact HB2.out | (with_reducible refine Below.setCell ?_ (by first | omega | (simp; done) | (simp; omega)) _))

set_option maxHeartbeats 400000 in
theorem szCmd_any (k : Int) (s q n : Int) (aS : Bool) (aH aL : BitVec 64) (ab b : Int) (hS : Bool) (hH hL : Int) (o : ByteArray) (t sp : Int) (left : Int) (hl : left = 1048576) (ho : o.size ≤ 9223372036854775807) (y : World) :
    Calls Tryd.prog 5 #[.agg #[.int .i64 k, .int .i64 s, .int .i64 q, .int .i64 n, .bool aS, .int .i64 aH.toInt, .int .i64 aL.toInt, .int .i64 ab, .int .i64 b, .bool hS, .int .i64 hH, .int .i64 hL, .string o, .int .i64 t, .int .i64 sp], .int .i64 left] y fun e w' => (∃ z : Int, (0 ≤ z → o.size ≤ 1048576) ∧ e = .returned (.int .i64 z)) ∧ Below y.heap.size y w' := by
  subst hl
  have ab := (Below.refl y.heap.size y).alloc (Nat.le_refl _) (.cells #[.int .i64 k, .int .i64 s, .int .i64 q, .int .i64 n, .bool aS, .int .i64 aH.toInt, .int .i64 aL.toInt, .int .i64 ab, .int .i64 b, .bool hS, .int .i64 hH, .int .i64 hL, .string o, .int .i64 t, .int .i64 sp] 27)
  by_cases h : (o.size : Int) ≤ 1048576
  · have d : ¬ ((1048576 : Int) - (o.size : Int) < 0) := by omega
    go_enter Tryd.func5, Tryd.ntmps5
    go_wp2_with fail
    go_ret
    exact ⟨⟨_, fun _ => by omega, rfl⟩, ab⟩
  · have d : (1048576 : Int) - (o.size : Int) < 0 := by omega
    go_enter Tryd.func5, Tryd.ntmps5
    go_wp2_with fail
    go_ret
    exact ⟨⟨-1, fun q => by omega, rfl⟩, ab⟩

end Go.Proofs.YtoadckdokdcppaaDoor

namespace Go.Proofs.YtoadckdokdcppaaDoor
open Go.ChangeShapes Go.WideShapes Go.ChangeAt Go.RowKit Go.Joins Go.Deep

theorem array15 {α : Type} {cs : Array α} (h : cs.size = 15) : ∃ c0 c1 c2 c3 c4 c5 c6 c7 c8 c9 c10 c11 c12 c13 c14, cs = #[c0, c1, c2, c3, c4, c5, c6, c7, c8, c9, c10, c11, c12, c13, c14] := by
  obtain ⟨l⟩ := cs
  match l, h with
  | [c0, c1, c2, c3, c4, c5, c6, c7, c8, c9, c10, c11, c12, c13, c14], _ => exact ⟨c0, c1, c2, c3, c4, c5, c6, c7, c8, c9, c10, c11, c12, c13, c14, rfl⟩
theorem wfI {x : Int} (h : (Lit.int .i64 x).wf = true) : I6 x := by
  unfold I6; simpa [Lit.wf, IntKind.min, IntKind.max, IntKind.signed, IntKind.bits] using h
theorem wfB {x : Int} (h : (Lit.int .i64 x).wf = true) : (BitVec.ofInt 64 x).toInt = x := by
  have := wfI h; unfold I6 at this
  rw [BitVec.toInt_ofInt]; simp only [Int.bmod]; omega
set_option maxRecDepth 100000 in
set_option maxHeartbeats 1000000 in
theorem openCmd {H : Type} {enc : TypeId × Value → H} {W : World} {r : Reach} {b0 : Nat} {v : Value} {d : DataW H} {p : List MemPlace} (hv : Value.okWide Tryd.prog W r b0 27 v)
    (h : DataW.Trod enc Tryd.prog W 0 (fun _ => true) true 27 v d p) : ∃ (k s q n : Int) (aS : Bool) (aH aL : BitVec 64) (ab b : Int) (hS : Bool) (hH hL : Int) (o : ByteArray) (t sp : Int),
    v = .agg #[.int .i64 k, .int .i64 s, .int .i64 q, .int .i64 n, .bool aS, .int .i64 aH.toInt, .int .i64 aL.toInt, .int .i64 ab, .int .i64 b, .bool hS, .int .i64 hH, .int .i64 hL, .string o, .int .i64 t, .int .i64 sp] ∧ (I6 s ∧ I6 q ∧ I6 n ∧ I6 b ∧ I6 t ∧ I6 sp) ∧ I6 hH ∧ I6 hL ∧ o.size ≤ 9223372036854775807 := by
  obtain ⟨cs, rfl, hsz⟩ := okWide_struct Tryd.underlying27 hv
  have hC : Tryd.prog.cellsOf 27 = 15 := by kernel_rfl
  obtain ⟨c0, c1, c2, c3, c4, c5, c6, c7, c8, c9, c10, c11, c12, c13, c14, rfl⟩ := array15 (hsz.trans hC)
  obtain ⟨fuel, hf⟩ := h
  obtain ⟨xs, n, _, _, _, hlen, hx⟩ := DataW.trod_struct Tryd.underlying27 hf
  have kA : Tryd.prog.cellsOf 23 = 3 := by kernel_rfl
  have kP : Tryd.prog.cellsOf 25 = 4 := by kernel_rfl
  have ki : Tryd.prog.cellsOf 3 = 1 := by kernel_rfl
  have kb : Tryd.prog.cellsOf 4 = 1 := by kernel_rfl
  have ks : Tryd.prog.cellsOf 9 = 1 := by kernel_rfl
  match xs, hlen with
  | [y0, y1, y2, y3, y4, y5, y6, y7, y8, y9], _ =>
    have f0 := hx 0 _ rfl; have f1 := hx 1 _ rfl; have f2 := hx 2 _ rfl; have f3 := hx 3 _ rfl; have f4 := hx 4 _ rfl
    have f5 := hx 5 _ rfl; have f6 := hx 6 _ rfl; have f7 := hx 7 _ rfl; have f8 := hx 8 _ rfl; have f9 := hx 9 _ rfl
    simp [Value.cells, kA, kP, ki, ks] at f0 f1 f2 f3 f4 f5 f6 f7 f8 f9
    obtain ⟨z0, z1, m, _, _, g0, g1⟩ := trod_struct2 Tryd.underlying25 f4
    simp [kA, ki] at g0 g1
    obtain ⟨u0, u1, u2, m2, _, _, j0, j1, j2⟩ := trod_struct3 Tryd.underlying23 g0
    simp [ki, kb] at j0 j1 j2
    obtain ⟨w0, w1, w2, m3, _, _, l0, l1, l2⟩ := trod_struct3 Tryd.underlying23 f6
    simp [ki, kb] at l0 l1 l2
    obtain ⟨k, e0, _, _⟩ := DataW.trod_int Tryd.underlying3 f0
    obtain ⟨s, e1, _, ws⟩ := DataW.trod_int Tryd.underlying3 f1
    obtain ⟨q, e2, _, wq⟩ := DataW.trod_int Tryd.underlying3 f2
    obtain ⟨n', e3, _, wn⟩ := DataW.trod_int Tryd.underlying3 f3
    obtain ⟨aS, e4, _⟩ := DataW.trod_bool Tryd.underlying4 j0
    obtain ⟨aH, e5, _, wH⟩ := DataW.trod_int Tryd.underlying3 j1
    obtain ⟨aL, e6, _, wL⟩ := DataW.trod_int Tryd.underlying3 j2
    obtain ⟨ab, e7, _, _⟩ := DataW.trod_int Tryd.underlying3 g1
    obtain ⟨b, e8, _, wb⟩ := DataW.trod_int Tryd.underlying3 f5
    obtain ⟨hS, e9, _⟩ := DataW.trod_bool Tryd.underlying4 l0
    obtain ⟨hH, e10, _, wh⟩ := DataW.trod_int Tryd.underlying3 l1
    obtain ⟨hL, e11, _, wl⟩ := DataW.trod_int Tryd.underlying3 l2
    obtain ⟨o, e12, _, wo⟩ := DataW.trod_string Tryd.underlying9 f7
    obtain ⟨t, e13, _, wt⟩ := DataW.trod_int Tryd.underlying3 f8
    obtain ⟨sp, e14, _, wp⟩ := DataW.trod_int Tryd.underlying3 f9
    simp at e0 e1 e2 e3 e4 e5 e6 e7 e8 e9 e10 e11 e12 e13 e14
    subst e0 e1 e2 e3 e4 e5 e6 e7 e8 e9 e10 e11 e12 e13 e14
    refine ⟨k, s, q, n', aS, BitVec.ofInt 64 aH, BitVec.ofInt 64 aL, ab, b, hS, hH, hL, o, t, sp, by rw [wfB wH, wfB wL], ⟨wfI ws, wfI wq, wfI wn, wfI wb, wfI wt, wfI wp⟩, wfI wh, wfI wl, ?_⟩
    unfold maxLen at wo; omega

end Go.Proofs.YtoadckdokdcppaaDoor

namespace Go.Proofs.YtoadckdokdcppaaDoor
open Go.ChangeShapes Go.WideShapes Go.ChangeAt Go.RowKit Go.Joins Go.Deep

set_option maxRecDepth 10000 in
set_option maxHeartbeats 4000000 in
theorem lawCmd (k : Int) (s q n : Int) (aS : Bool) (aH aL : BitVec 64) (ab b : Int) (hS : Bool) (hH hL : Int) (o : ByteArray) (t sp : Int) (h6 : I6 s ∧ I6 q ∧ I6 n ∧ I6 b ∧ I6 t ∧ I6 sp) (bH : I6 hH) (bL : I6 hL) (ho : o.size ≤ 9223372036854775807) (y : World) (ht : Tabs y) :
    Calls Tryd.prog 4 #[.agg #[.int .i64 k, .int .i64 s, .int .i64 q, .int .i64 n, .bool aS, .int .i64 aH.toInt, .int .i64 aL.toInt, .int .i64 ab, .int .i64 b, .bool hS, .int .i64 hH, .int .i64 hL, .string o, .int .i64 t, .int .i64 sp]] y fun e w' => e = .returned (.bool true) ∧ Below y.heap.size y w' := by
  have HSz := hidP (fun w => szCmd_any k s q n aS aH aL ab b hS hH hL o t sp 1048576 rfl ho w)
  have HTo := hidP (fun w => toCmd_any k s q n aS aH aL ab b hS hH hL o t sp w)
  have HBo := hidP (fun (h : o.size ≤ 1048576) => text_both k s q n aS aH aL ab b hS hH hL o t sp ⟨h6.1, h6.2.1, h6.2.2.1, h6.2.2.2.1, h6.2.2.2.2.1, h6.2.2.2.2.2, h⟩ bH bL)
  have HT := hidP ht
  clear h6 bH bL ho ht
  have HU := hidP ((Below.refl y.heap.size y).alloc (Nat.le_refl _) (.cells #[.int .i64 k, .int .i64 s, .int .i64 q, .int .i64 n, .bool aS, .int .i64 aH.toInt, .int .i64 aL.toInt, .int .i64 ab, .int .i64 b, .bool hS, .int .i64 hH, .int .i64 hL, .string o, .int .i64 t, .int .i64 sp] 27))
  have HX0 := hidP (Bx.new y [.int .i64 k, .int .i64 s, .int .i64 q, .int .i64 n, .bool aS, .int .i64 aH.toInt, .int .i64 aL.toInt, .int .i64 ab, .int .i64 b, .bool hS, .int .i64 hH, .int .i64 hL, .string o, .int .i64 t, .int .i64 sp] 27)
  go_enter Tryd.func4, Tryd.ntmps4
  go_wp2_with fail
  refine (HSz.out _).mono ?_
  rintro e w1 ⟨⟨z, hz, rfl⟩, hb1⟩
  have HX := hidP (HX0.out.later hb1)
  have HB1 := hidP (HU.out.trans (hb1.mono HU.out.size))
  have h1 := HB1.out.size
  have HZ := hidP hz
  clear hb1 hz HX0 HU
  by_cases z0 : z < 0
  · go_wp2_with fail
    go_ret
    exact ⟨rfl, HB1.out⟩
  · have d0 : decide (z < 0) = false := decide_eq_false z0
    obtain ⟨r, hS', hI'⟩ := HBo.out (HZ.out (by omega))
    have HSp := hidP hS'
    have HIm := hidP hI'
    clear hS' hI' HBo HZ
    have c0 := HX.out.cel 0 _ rfl
    have c1 := HX.out.cel 1 _ rfl
    have c2 := HX.out.cel 2 _ rfl
    have c3 := HX.out.cel 3 _ rfl
    have c4 := HX.out.cel 4 _ rfl
    have c5 := HX.out.cel 5 _ rfl
    have c6 := HX.out.cel 6 _ rfl
    have c7 := HX.out.cel 7 _ rfl
    have c8 := HX.out.cel 8 _ rfl
    have c9 := HX.out.cel 9 _ rfl
    have c10 := HX.out.cel 10 _ rfl
    have c11 := HX.out.cel 11 _ rfl
    have c12 := HX.out.cel 12 _ rfl
    have c13 := HX.out.cel 13 _ rfl
    have c14 := HX.out.cel 14 _ rfl
    go_wp2_with fail
    refine (HTo.out _).mono ?_
    rintro e w2 ⟨rfl, hb2⟩
    have HX2 := hidP (HX.out.later hb2)
    have HB2 := hidP (HB1.out.trans (hb2.mono h1))
    have h2 := HB2.out.size
    clear hb2 c0 c1 c2 c3 c4 c5 c6 c7 c8 c9 c10 c11 c12 c13 c14 HX
    go_wp2_with fail
    refine (HSp.out _).mono ?_
    rintro e w3 ⟨rfl, hb3⟩
    have HX := hidP (HX2.out.later hb3)
    have HB3 := hidP (HB2.out.trans (hb3.mono h2))
    have h3 := HB3.out.size
    clear hb3 HX2
    have c0 := HX.out.cel 0 _ rfl
    have c1 := HX.out.cel 1 _ rfl
    have c2 := HX.out.cel 2 _ rfl
    have c3 := HX.out.cel 3 _ rfl
    have c4 := HX.out.cel 4 _ rfl
    have c5 := HX.out.cel 5 _ rfl
    have c6 := HX.out.cel 6 _ rfl
    have c7 := HX.out.cel 7 _ rfl
    have c8 := HX.out.cel 8 _ rfl
    have c9 := HX.out.cel 9 _ rfl
    have c10 := HX.out.cel 10 _ rfl
    have c11 := HX.out.cel 11 _ rfl
    have c12 := HX.out.cel 12 _ rfl
    have c13 := HX.out.cel 13 _ rfl
    have c14 := HX.out.cel 14 _ rfl
    go_wp2_with fail
    refine (HTo.out _).mono ?_
    rintro e w4 ⟨rfl, hb4⟩
    have HB4 := hidP (HB3.out.trans (hb4.mono h3))
    have h4 := HB4.out.size
    clear hb4 c0 c1 c2 c3 c4 c5 c6 c7 c8 c9 c10 c11 c12 c13 c14 HX
    go_wp2_with fail
    refine (HIm.out _ (HT.out.below HB4.out)).mono ?_
    rintro e w5 ⟨rfl, hb5⟩
    have HB5 := hidP (HB4.out.trans (hb5.mono h4))
    clear hb5
    go_wp2_with fail
    go_ret
    exact ⟨rfl, HB5.out⟩

theorem ownT : ownKnob Tryd.prog.godebug = none := by kernel_rfl
theorem g64 : Tryd.prog.globalNamed "math/bits.deBruijn64tab" = some 2 := by kernel_rfl

theorem big {W : World} (h : W.ShapedOpen Tryd.prog) : 4 ≤ W.heap.size := by
  obtain ⟨o, _, ho, _⟩ := h.2 4 (of_decide_eq_true (by kernel_rfl)) (of_decide_eq_true (by kernel_rfl))
  have := (Array.getElem?_eq_some_iff.mp ho).1
  omega

/-- What the row's list gives: the tables' cells. -/
theorem tabs {W : World} (h : laidMetH Tryd.prog Rows.fnExactCommandTextRow.laid W) (hO : W.ShapedOpen Tryd.prog) : Tabs W := by
  have h1 := h.filter (fun x => x.1 == "internal/strconv.uint64pow10")
  have h2 := h.filter (fun x => x.1 == "math/bits.deBruijn64tab")
  have e1 : (Rows.fnExactCommandTextRow.laid.filter fun x => x.1 == "internal/strconv.uint64pow10") = [("internal/strconv.uint64pow10", Rows.laid_internal_strconv_uint64pow10)] := by kernel_rfl
  have e2 : (Rows.fnExactCommandTextRow.laid.filter fun x => x.1 == "math/bits.deBruijn64tab") = [("math/bits.deBruijn64tab", Rows.laid_math_bits_deBruijn64tab)] := by kernel_rfl
  rw [e1] at h1
  rw [e2] at h2
  have t1 : Lib.TabIs Tryd.prog W "internal/strconv.uint64pow10" .u64 Lib.pow10Tab :=
    Lib.tabIs_of_head (rest := []) gpow (by kernel_rfl) Tryd.underlying140 Tryd.underlying64 (by kernel_rfl) (by kernel_rfl) h1
  have t2 : Lib.TabIs Tryd.prog W "math/bits.deBruijn64tab" .u8 [0, 1, 56, 2, 57, 49, 28, 3, 61, 58, 42, 50, 38, 29, 17, 4, 62, 47, 59, 36, 45, 43, 51, 22, 53, 39, 33, 30, 24, 18, 12, 5, 63, 55, 48, 27, 60, 41, 37, 16, 46, 35, 44, 21, 52, 32, 23, 11, 54, 26, 40, 15, 34, 20, 31, 10, 25, 14, 19, 9, 13, 8, 7, 6] :=
    Lib.tabIs_of_head (rest := []) g64 (by kernel_rfl) Tryd.underlying151 Tryd.underlying5 (by kernel_rfl) (by kernel_rfl) h2
  have c : W.cell? ⟨2, 15, none⟩ = some (.int .u8 4) := t2.cell g64 15 (by decide)
  exact ⟨t1, c, big hO⟩

theorem Tryd.laidOutV : laidOutB Tryd.prog = true := by kernel_rfl
set_option maxRecDepth 100000 in
theorem contractT (H : Type) (enc : TypeId × Value → H) (W : World) (base : Nat) (args : Array Value) (ds gs : List (DataW H)) (before : List MemPlace)
    (hval : ∀ (j : Nat) t v, Tryd.f4.params[j]? = some t → args[j]? = some v → Value.okWide Tryd.prog W .any base t v)
    (hW : DataW.Whole enc Tryd.prog Tryd.f4.params.toList Rows.fnExactCommandTextSpec.vars false W args.toList ds gs before) (hL' : laidMetH Tryd.prog Rows.fnExactCommandTextRow.laid W) (hO : W.ShapedOpen Tryd.prog) :
    Calls Tryd.prog 4 args W fun e W' => ∃ v, e = .returned v ∧ Rows.fnExactCommandTextSpec.post enc Tryd.prog Tryd.f4 false true false false W args v W' := by
  have hW' := hW
  obtain ⟨p, q, hA0, hV, rfl, _, _⟩ := hW
  have hA : DataW.TrodAll enc Tryd.prog W 0 (fun _ => true) true Tryd.f4.params.toList args.toList ds p := hA0
  rw [Tryd.params4] at hA hval
  obtain ⟨v0, d0, rfl, rfl, h0⟩ := trodAll_one hA
  obtain ⟨rfl, rfl⟩ := trodVars_none hV
  obtain ⟨k, s, q', n, aS, aH, aL, ab, b, hS, hH, hL, o, t, sp, rfl, h6, bH, bL, ho⟩ := openCmd (hval 0 27 v0 rfl rfl) h0
  clear hA0
  simp only [List.append_nil] at hW'
  have hlt : ∀ x ∈ p, x.block < W.heap.size := fun x hx => by simpa using hW'.lt x hx
  refine (lawCmd k s q' n aS aH aL ab b hS hH hL o t sp h6 bH bL ho W (tabs hL' hO)).mono fun e W' ⟨he, hb⟩ => ?_
  subst he
  exact ⟨_, rfl, ⟨_, _, _, [], p, [], hW', trodAll_mk1 (shut_bool Tryd.underlying4 true), trodAll_mk1 (Below.trod Tryd.laidOutV (by kernel_rfl) (of_decide_eq_true (by kernel_rfl)) h0 hb hlt), rfl, hb.frame _, fun h => by cases h⟩⟩

/-- A block of cells laid anew. -/
def layAs (cs : Array Value) : Obj → Obj
  | .cells _ t frozen => .cells cs t frozen
  | o => o
/-- A world for the witness: the settled one, the tables holding what their initialisers lay. -/
noncomputable def laidWorld (os : Os) : World :=
  { World.holding Tryd.prog os ⟨#[], #[], []⟩ with heap := (((World.holding Tryd.prog os ⟨#[], #[], []⟩).heap.modify 1 (layAs #[.int .u8 0, .int .u8 1, .int .u8 28, .int .u8 2, .int .u8 29, .int .u8 14, .int .u8 24, .int .u8 3, .int .u8 30, .int .u8 22, .int .u8 20, .int .u8 15, .int .u8 25, .int .u8 17, .int .u8 4, .int .u8 8, .int .u8 31, .int .u8 27, .int .u8 13, .int .u8 23, .int .u8 21, .int .u8 19, .int .u8 16, .int .u8 7, .int .u8 26, .int .u8 12, .int .u8 18, .int .u8 6, .int .u8 11, .int .u8 5, .int .u8 10, .int .u8 9])).modify 2 (layAs #[.int .u8 0, .int .u8 1, .int .u8 56, .int .u8 2, .int .u8 57, .int .u8 49, .int .u8 28, .int .u8 3, .int .u8 61, .int .u8 58, .int .u8 42, .int .u8 50, .int .u8 38, .int .u8 29, .int .u8 17, .int .u8 4, .int .u8 62, .int .u8 47, .int .u8 59, .int .u8 36, .int .u8 45, .int .u8 43, .int .u8 51, .int .u8 22, .int .u8 53, .int .u8 39, .int .u8 33, .int .u8 30, .int .u8 24, .int .u8 18, .int .u8 12, .int .u8 5, .int .u8 63, .int .u8 55, .int .u8 48, .int .u8 27, .int .u8 60, .int .u8 41, .int .u8 37, .int .u8 16, .int .u8 46, .int .u8 35, .int .u8 44, .int .u8 21, .int .u8 52, .int .u8 32, .int .u8 23, .int .u8 11, .int .u8 54, .int .u8 26, .int .u8 40, .int .u8 15, .int .u8 34, .int .u8 20, .int .u8 31, .int .u8 10, .int .u8 25, .int .u8 14, .int .u8 19, .int .u8 9, .int .u8 13, .int .u8 8, .int .u8 7, .int .u8 6])).modify 0 (layAs #[.int .u64 1, .int .u64 10, .int .u64 100, .int .u64 1000, .int .u64 10000, .int .u64 100000, .int .u64 1000000, .int .u64 10000000, .int .u64 100000000, .int .u64 1000000000, .int .u64 10000000000, .int .u64 100000000000, .int .u64 1000000000000, .int .u64 10000000000000, .int .u64 100000000000000, .int .u64 1000000000000000, .int .u64 10000000000000000, .int .u64 100000000000000000, .int .u64 1000000000000000000, .int .u64 10000000000000000000]) }
theorem laid_met (os : Os) : laidMet Tryd.prog Rows.fnExactCommandTextRow.laid ((laidWorld os).forCall (fun _ _ => 0) ⟨#[], #[.agg #[.int .i64 0, .int .i64 0, .int .i64 0, .int .i64 0, .bool false, .int .i64 0, .int .i64 0, .int .i64 0, .int .i64 0, .bool false, .int .i64 0, .int .i64 0, .string ⟨#[]⟩, .int .i64 0, .int .i64 0]], []⟩).memory :=
  laidMet_of_run' 8 (by kernel_rfl) (by kernel_rfl)
theorem reads (os : Os) {H : Type} (enc : TypeId × Value → H) : ∃ places, DataW.whole enc Tryd.prog ((laidWorld os).forCall (fun _ _ => 0) ⟨#[], #[.agg #[.int .i64 0, .int .i64 0, .int .i64 0, .int .i64 0, .bool false, .int .i64 0, .int .i64 0, .int .i64 0, .int .i64 0, .bool false, .int .i64 0, .int .i64 0, .string ⟨#[]⟩, .int .i64 0, .int .i64 0]], []⟩).memory Tryd.f4.params.toList Rows.fnExactCommandTextSpec.vars false (#[.agg #[.int .i64 0, .int .i64 0, .int .i64 0, .int .i64 0, .bool false, .int .i64 0, .int .i64 0, .int .i64 0, .int .i64 0, .bool false, .int .i64 0, .int .i64 0, .string ⟨#[]⟩, .int .i64 0, .int .i64 0]] : Array Value).toList 8 = some ([.agg [.lit (.int .i64 0), .lit (.int .i64 0), .lit (.int .i64 0), .lit (.int .i64 0), .agg [.agg [.lit (.bool false), .lit (.int .i64 0), .lit (.int .i64 0)], .lit (.int .i64 0)], .lit (.int .i64 0), .agg [.lit (.bool false), .lit (.int .i64 0), .lit (.int .i64 0)], .lit (.string []), .lit (.int .i64 0), .lit (.int .i64 0)]], [], places) :=
  ⟨[], by kernel_rfl⟩

set_option maxRecDepth 100000 in
theorem liftedT (os : Os) (started : os.Started) (H : Type) (enc : TypeId × Value → H) (F : Stop.Interp) :
    ReturnsInHanded {} Tryd.checked os 4 .any ((OpenSpec.ofChange Rows.fnExactCommandTextSpec).preRow enc Tryd.prog Tryd.f4 Rows.fnExactCommandTextRow.domain false Rows.fnExactCommandTextRow.laid) (((OpenSpec.ofChange Rows.fnExactCommandTextSpec).at F).post enc Tryd.prog Tryd.f4 false true false false) := by
  obtain ⟨places, hx⟩ := reads os enc
  refine returnsInHanded_of_row (C := Tryd.checked) (s := OpenSpec.ofChange Rows.fnExactCommandTextSpec) ownT started (by kernel_rfl) Tryd.func4
    (witness_row_at (enc := enc) (C := Tryd.checked) false (laidWorld os) #[.agg #[.int .i64 0, .int .i64 0, .int .i64 0, .int .i64 0, .bool false, .int .i64 0, .int .i64 0, .int .i64 0, .int .i64 0, .bool false, .int .i64 0, .int .i64 0, .string ⟨#[]⟩, .int .i64 0, .int .i64 0]] rfl (by kernel_rfl) (by kernel_rfl) (by kernel_rfl)
      (OpenSpec.preRow_of_cond 8 hx (by kernel_rfl) (fun k hk => by cases hk) (by kernel_rfl) (laid_met os))) ?_
  intro W base args ds gs before hval hW _ _ _ hL hO _
  exact contractT H enc W base args ds gs before hval hW hL hO

theorem saidT : Rows.FnExactCommandTextSaid :=
  OpenClaim.holds_of_cond 4 Tryd.f4 rfl rfl rfl rfl rfl rfl rfl ⟨rfl, rfl, rfl, rfl, rfl⟩ rfl rfl rfl rfl rfl (by kernel_rfl) Tryd.func4 (by kernel_rfl)
    (of_decide_eq_true (by kernel_rfl)) (by unfold Func.isWrapper; rw [if_neg (of_decide_eq_false (by kernel_rfl))]; exact ⟨rfl, rfl⟩)
    (fun os started H enc _ F => by rw [OpenClaim.pre_eq_preRow]; exact liftedT os started H enc F)

theorem plainT (f : FuncId) (fn : Func) (hf : Tryd.pinned.checked.prog.funcNamed "loop.example/g00113/laws.FnExactCommandText" = some f) (hfn : Tryd.pinned.checked.prog.funcs[f]? = some fn) :
    true = Tryd.pinned.checked.prog.looks [] ∧ ∀ (j : Nat) t, fn.params[j]? = some t → Tryd.pinned.checked.prog.wantsStandIn t = false := by
  obtain rfl : f = 4 := Option.some.inj ((show Tryd.prog.funcNamed "loop.example/g00113/laws.FnExactCommandText" = some 4 by kernel_rfl).symm.trans hf) |>.symm
  obtain rfl : fn = Tryd.f4 := (Option.some.inj (Tryd.func4.symm.trans hfn)).symm
  refine ⟨by kernel_rfl, fun j t ht => ?_⟩
  rw [Tryd.params4] at ht
  obtain rfl : t = 27 := by simpa using Array.mem_of_getElem? ht
  exact (show Tryd.prog.wantsStandIn 27 = false by kernel_rfl)

theorem commandText_card : Rows.FnExactCommandTextCardSaid :=
  Claim7.holds_tied_plain_at .later [] _ _ _ _ saidT (fun _ h => by cases h) (by kernel_rfl) (fun _ h => by cases h) fnExactCommandText_row_tie rfl ⟨rfl, rfl⟩ (by kernel_rfl) rfl plainT (by kernel_rfl)

end Go.Proofs.YtoadckdokdcppaaDoor
