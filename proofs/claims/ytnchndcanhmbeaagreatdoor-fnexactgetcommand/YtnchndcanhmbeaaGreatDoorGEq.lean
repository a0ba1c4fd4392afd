/-
  What the program asks of a command of each kind is what the specification asks.
-/
import Derived.Test.YtnchndcanhmbeaaGreatDoorGSc
import Derived.Test.YtnchndcanhmbeaaGreatDoorGCmI
namespace Go.Proofs.YtnchndcanhmbeaaGreatDoor
open Go.RowKit

theorem emp0 : (⟨#[]⟩ : ByteArray).toList.isEmpty = true := by
  unfold ByteArray.toList
  rw [ByteArray.toList.loop]
  rfl

theorem eq_1 (s q n : Int) (aS : Bool) (aH aL : BitVec 64) (ab b : Int) (hS : Bool) (hH hL : Int) (o : ByteArray) (t sp : Int) (_TA _TH : List UInt8) : (zCm (0) (s) (q) (0) (aS) (aH.toInt) (aL.toInt) (ab) (b) (hS) (hH) (hL) (o) (t) (sp) && [((fT ⟨#[110, 111, 119]⟩ n), (rB 0 n 1000000000))].all (fun z => z.2)) = spC ⟨#[]⟩ 1 s q n aS aH aL ab b hS hH hL o t sp := by
  unfold spC nB
  simp only [show hasB8 ⟨#[]⟩ 115 = false from rfl, show hasB8 ⟨#[]⟩ 113 = false from rfl, show hasB8 ⟨#[]⟩ 116 = false from rfl, show hasB8 ⟨#[]⟩ 112 = false from rfl, show hasB8 ⟨#[]⟩ 97 = false from rfl, show hasB8 ⟨#[]⟩ 98 = false from rfl, show hasB8 ⟨#[]⟩ 104 = false from rfl, show hasB8 ⟨#[]⟩ 111 = false from rfl, show rB 1 1 11 = true from rfl, if_false, Bool.false_eq_true, List.all_cons, List.all_nil, Bool.true_and, Bool.and_true]
  unfold zCm
  simp only [beq_self_eq_true, Bool.true_and]
  generalize (s == 0) = v0
  generalize (q == 0) = v1
  generalize (t == 0) = v2
  generalize (sp == 0) = v3
  generalize (rB 0 n 1000000000) = v4
  generalize ((aS == false && (aH.toInt == 0 && aL.toInt == 0) && ab == 0)) = v5
  generalize (b == 0) = v6
  generalize ((hS == false && (hH == 0 && hL == 0))) = v7
  generalize (o.toList.isEmpty) = v8
  revert v0 v1 v2 v3 v4 v5 v6 v7 v8
  decide
theorem eq_2 (s q n : Int) (aS : Bool) (aH aL : BitVec 64) (ab b : Int) (hS : Bool) (hH hL : Int) (o : ByteArray) (t sp : Int) (_TA _TH : List UInt8) : (zCm (0) (0) (q) (0) (aS) (aH.toInt) (aL.toInt) (ab) (b) (hS) (hH) (hL) (o) (t) (sp) && [((fT ⟨#[115, 101, 115, 115, 105, 111, 110]⟩ s), (rB 1 s 1000000)), ((fT ⟨#[110, 111, 119]⟩ n), (rB 0 n 1000000000))].all (fun z => z.2)) = spC ⟨#[115]⟩ 2 s q n aS aH aL ab b hS hH hL o t sp := by
  unfold spC nB
  simp only [show hasB8 ⟨#[115]⟩ 115 = true from rfl, show hasB8 ⟨#[115]⟩ 113 = false from rfl, show hasB8 ⟨#[115]⟩ 116 = false from rfl, show hasB8 ⟨#[115]⟩ 112 = false from rfl, show hasB8 ⟨#[115]⟩ 97 = false from rfl, show hasB8 ⟨#[115]⟩ 98 = false from rfl, show hasB8 ⟨#[115]⟩ 104 = false from rfl, show hasB8 ⟨#[115]⟩ 111 = false from rfl, show rB 1 2 11 = true from rfl, if_true, if_false, Bool.false_eq_true, List.all_cons, List.all_nil, Bool.true_and, Bool.and_true]
  unfold zCm
  simp only [beq_self_eq_true, Bool.true_and]
  generalize (rB 1 s 1000000) = v0
  generalize (q == 0) = v1
  generalize (t == 0) = v2
  generalize (sp == 0) = v3
  generalize (rB 0 n 1000000000) = v4
  generalize ((aS == false && (aH.toInt == 0 && aL.toInt == 0) && ab == 0)) = v5
  generalize (b == 0) = v6
  generalize ((hS == false && (hH == 0 && hL == 0))) = v7
  generalize (o.toList.isEmpty) = v8
  revert v0 v1 v2 v3 v4 v5 v6 v7 v8
  decide
theorem eq_3 (s q n : Int) (aS : Bool) (aH aL : BitVec 64) (ab b : Int) (hS : Bool) (hH hL : Int) (o : ByteArray) (t sp : Int) (TA _TH : List UInt8) : (zCm (0) (0) (0) (0) (false) (0) (0) (0) (0) (hS) (hH) (hL) (o) (t) (sp) && [((fT ⟨#[115, 101, 115, 115, 105, 111, 110]⟩ s), (rB 1 s 1000000)), ((fT ⟨#[115, 101, 113]⟩ q), (rB 1 q 1000000)), ((fT ⟨#[110, 111, 119]⟩ n), (rB 0 n 1000000000)), ((aT TA), (pokB aS aH aL ab)), ((fT ⟨#[98, 105, 116, 115]⟩ b), (rB 0 b 128))].all (fun z => z.2)) = spC ⟨#[115, 113, 97, 98]⟩ 3 s q n aS aH aL ab b hS hH hL o t sp := by
  unfold spC nB
  simp only [show hasB8 ⟨#[115, 113, 97, 98]⟩ 115 = true from rfl, show hasB8 ⟨#[115, 113, 97, 98]⟩ 113 = true from rfl, show hasB8 ⟨#[115, 113, 97, 98]⟩ 116 = false from rfl, show hasB8 ⟨#[115, 113, 97, 98]⟩ 112 = false from rfl, show hasB8 ⟨#[115, 113, 97, 98]⟩ 97 = true from rfl, show hasB8 ⟨#[115, 113, 97, 98]⟩ 98 = true from rfl, show hasB8 ⟨#[115, 113, 97, 98]⟩ 104 = false from rfl, show hasB8 ⟨#[115, 113, 97, 98]⟩ 111 = false from rfl, show rB 1 3 11 = true from rfl, if_true, if_false, Bool.false_eq_true, List.all_cons, List.all_nil, Bool.true_and, Bool.and_true]
  unfold zCm
  simp only [beq_self_eq_true, Bool.true_and, Bool.and_true]
  generalize (rB 1 s 1000000) = v0
  generalize (rB 1 q 1000000) = v1
  generalize (t == 0) = v2
  generalize (sp == 0) = v3
  generalize (rB 0 n 1000000000) = v4
  generalize (pokB aS aH aL ab) = v5
  generalize (rB 0 b 128) = v6
  generalize ((hS == false && (hH == 0 && hL == 0))) = v7
  generalize (o.toList.isEmpty) = v8
  revert v0 v1 v2 v3 v4 v5 v6 v7 v8
  decide
theorem eq_4 (s q n : Int) (aS : Bool) (aH aL : BitVec 64) (ab b : Int) (hS : Bool) (hH hL : Int) (o : ByteArray) (t sp : Int) (TA _TH : List UInt8) : (zCm (0) (0) (0) (0) (false) (0) (0) (0) (b) (hS) (hH) (hL) (o) (t) (sp) && [((fT ⟨#[115, 101, 115, 115, 105, 111, 110]⟩ s), (rB 1 s 1000000)), ((fT ⟨#[115, 101, 113]⟩ q), (rB 1 q 1000000)), ((fT ⟨#[110, 111, 119]⟩ n), (rB 0 n 1000000000)), ((aT TA), (pokB aS aH aL ab))].all (fun z => z.2)) = spC ⟨#[115, 113, 97]⟩ 4 s q n aS aH aL ab b hS hH hL o t sp := by
  unfold spC nB
  simp only [show hasB8 ⟨#[115, 113, 97]⟩ 115 = true from rfl, show hasB8 ⟨#[115, 113, 97]⟩ 113 = true from rfl, show hasB8 ⟨#[115, 113, 97]⟩ 116 = false from rfl, show hasB8 ⟨#[115, 113, 97]⟩ 112 = false from rfl, show hasB8 ⟨#[115, 113, 97]⟩ 97 = true from rfl, show hasB8 ⟨#[115, 113, 97]⟩ 98 = false from rfl, show hasB8 ⟨#[115, 113, 97]⟩ 104 = false from rfl, show hasB8 ⟨#[115, 113, 97]⟩ 111 = false from rfl, show rB 1 4 11 = true from rfl, if_true, if_false, Bool.false_eq_true, List.all_cons, List.all_nil, Bool.true_and, Bool.and_true]
  unfold zCm
  simp only [beq_self_eq_true, Bool.true_and, Bool.and_true]
  generalize (rB 1 s 1000000) = v0
  generalize (rB 1 q 1000000) = v1
  generalize (t == 0) = v2
  generalize (sp == 0) = v3
  generalize (rB 0 n 1000000000) = v4
  generalize (pokB aS aH aL ab) = v5
  generalize (b == 0) = v6
  generalize ((hS == false && (hH == 0 && hL == 0))) = v7
  generalize (o.toList.isEmpty) = v8
  revert v0 v1 v2 v3 v4 v5 v6 v7 v8
  decide
theorem eq_5 (s q n : Int) (aS : Bool) (aH aL : BitVec 64) (ab b : Int) (hS : Bool) (hH hL : Int) (o : ByteArray) (t sp : Int) (TA _TH : List UInt8) : (zCm (0) (0) (0) (0) (false) (0) (0) (0) (b) (hS) (hH) (hL) (⟨#[]⟩) (t) (sp) && [((fT ⟨#[115, 101, 115, 115, 105, 111, 110]⟩ s), (rB 1 s 1000000)), ((fT ⟨#[115, 101, 113]⟩ q), (rB 1 q 1000000)), ((fT ⟨#[110, 111, 119]⟩ n), (rB 0 n 1000000000)), ((aT TA), (pokB aS aH aL ab)), ((oT o), (ownB o))].all (fun z => z.2)) = spC ⟨#[115, 113, 97, 111]⟩ 5 s q n aS aH aL ab b hS hH hL o t sp := by
  unfold spC nB
  simp only [show hasB8 ⟨#[115, 113, 97, 111]⟩ 115 = true from rfl, show hasB8 ⟨#[115, 113, 97, 111]⟩ 113 = true from rfl, show hasB8 ⟨#[115, 113, 97, 111]⟩ 116 = false from rfl, show hasB8 ⟨#[115, 113, 97, 111]⟩ 112 = false from rfl, show hasB8 ⟨#[115, 113, 97, 111]⟩ 97 = true from rfl, show hasB8 ⟨#[115, 113, 97, 111]⟩ 98 = false from rfl, show hasB8 ⟨#[115, 113, 97, 111]⟩ 104 = false from rfl, show hasB8 ⟨#[115, 113, 97, 111]⟩ 111 = true from rfl, show rB 1 5 11 = true from rfl, if_true, if_false, Bool.false_eq_true, List.all_cons, List.all_nil, Bool.true_and, Bool.and_true]
  unfold zCm
  simp only [beq_self_eq_true, Bool.true_and, Bool.and_true, emp0]
  generalize (rB 1 s 1000000) = v0
  generalize (rB 1 q 1000000) = v1
  generalize (t == 0) = v2
  generalize (sp == 0) = v3
  generalize (rB 0 n 1000000000) = v4
  generalize (pokB aS aH aL ab) = v5
  generalize (b == 0) = v6
  generalize ((hS == false && (hH == 0 && hL == 0))) = v7
  generalize (ownB o) = v8
  revert v0 v1 v2 v3 v4 v5 v6 v7 v8
  decide
theorem eq_6 (s q n : Int) (aS : Bool) (aH aL : BitVec 64) (ab b : Int) (hS : Bool) (hH hL : Int) (o : ByteArray) (t sp : Int) (TA _TH : List UInt8) : (zCm (0) (0) (0) (0) (false) (0) (0) (0) (b) (hS) (hH) (hL) (⟨#[]⟩) (t) (sp) && [((fT ⟨#[115, 101, 115, 115, 105, 111, 110]⟩ s), (rB 1 s 1000000)), ((fT ⟨#[115, 101, 113]⟩ q), (rB 1 q 1000000)), ((fT ⟨#[110, 111, 119]⟩ n), (rB 0 n 1000000000)), ((aT TA), (pokB aS aH aL ab)), ((oT o), (ownB o))].all (fun z => z.2)) = spC ⟨#[115, 113, 97, 111]⟩ 6 s q n aS aH aL ab b hS hH hL o t sp := by
  unfold spC nB
  simp only [show hasB8 ⟨#[115, 113, 97, 111]⟩ 115 = true from rfl, show hasB8 ⟨#[115, 113, 97, 111]⟩ 113 = true from rfl, show hasB8 ⟨#[115, 113, 97, 111]⟩ 116 = false from rfl, show hasB8 ⟨#[115, 113, 97, 111]⟩ 112 = false from rfl, show hasB8 ⟨#[115, 113, 97, 111]⟩ 97 = true from rfl, show hasB8 ⟨#[115, 113, 97, 111]⟩ 98 = false from rfl, show hasB8 ⟨#[115, 113, 97, 111]⟩ 104 = false from rfl, show hasB8 ⟨#[115, 113, 97, 111]⟩ 111 = true from rfl, show rB 1 6 11 = true from rfl, if_true, if_false, Bool.false_eq_true, List.all_cons, List.all_nil, Bool.true_and, Bool.and_true]
  unfold zCm
  simp only [beq_self_eq_true, Bool.true_and, Bool.and_true, emp0]
  generalize (rB 1 s 1000000) = v0
  generalize (rB 1 q 1000000) = v1
  generalize (t == 0) = v2
  generalize (sp == 0) = v3
  generalize (rB 0 n 1000000000) = v4
  generalize (pokB aS aH aL ab) = v5
  generalize (b == 0) = v6
  generalize ((hS == false && (hH == 0 && hL == 0))) = v7
  generalize (ownB o) = v8
  revert v0 v1 v2 v3 v4 v5 v6 v7 v8
  decide
theorem eq_7 (s q n : Int) (aS : Bool) (aH aL : BitVec 64) (ab b : Int) (hS : Bool) (hH hL : Int) (o : ByteArray) (t sp : Int) (TA _TH : List UInt8) : (zCm (0) (0) (0) (0) (false) (0) (0) (0) (b) (hS) (hH) (hL) (⟨#[]⟩) (t) (0) && [((fT ⟨#[115, 101, 115, 115, 105, 111, 110]⟩ s), (rB 1 s 1000000)), ((fT ⟨#[115, 101, 113]⟩ q), (rB 1 q 1000000)), ((fT ⟨#[110, 111, 119]⟩ n), (rB 0 n 1000000000)), ((aT TA), (pokB aS aH aL ab)), ((oT o), (ownB o)), ((fT ⟨#[115, 112, 97, 110]⟩ sp), (rB 1 sp 1000))].all (fun z => z.2)) = spC ⟨#[115, 113, 97, 111, 112]⟩ 7 s q n aS aH aL ab b hS hH hL o t sp := by
  unfold spC nB
  simp only [show hasB8 ⟨#[115, 113, 97, 111, 112]⟩ 115 = true from rfl, show hasB8 ⟨#[115, 113, 97, 111, 112]⟩ 113 = true from rfl, show hasB8 ⟨#[115, 113, 97, 111, 112]⟩ 116 = false from rfl, show hasB8 ⟨#[115, 113, 97, 111, 112]⟩ 112 = true from rfl, show hasB8 ⟨#[115, 113, 97, 111, 112]⟩ 97 = true from rfl, show hasB8 ⟨#[115, 113, 97, 111, 112]⟩ 98 = false from rfl, show hasB8 ⟨#[115, 113, 97, 111, 112]⟩ 104 = false from rfl, show hasB8 ⟨#[115, 113, 97, 111, 112]⟩ 111 = true from rfl, show rB 1 7 11 = true from rfl, if_true, if_false, Bool.false_eq_true, List.all_cons, List.all_nil, Bool.true_and, Bool.and_true]
  unfold zCm
  simp only [beq_self_eq_true, Bool.true_and, Bool.and_true, emp0]
  generalize (rB 1 s 1000000) = v0
  generalize (rB 1 q 1000000) = v1
  generalize (t == 0) = v2
  generalize (rB 1 sp 1000) = v3
  generalize (rB 0 n 1000000000) = v4
  generalize (pokB aS aH aL ab) = v5
  generalize (b == 0) = v6
  generalize ((hS == false && (hH == 0 && hL == 0))) = v7
  generalize (ownB o) = v8
  revert v0 v1 v2 v3 v4 v5 v6 v7 v8
  decide
theorem eq_8 (s q n : Int) (aS : Bool) (aH aL : BitVec 64) (ab b : Int) (hS : Bool) (hH hL : Int) (o : ByteArray) (t sp : Int) (_TA TH : List UInt8) : (zCm (0) (0) (0) (0) (aS) (aH.toInt) (aL.toInt) (ab) (b) (false) (0) (0) (⟨#[]⟩) (t) (0) && [((fT ⟨#[115, 101, 115, 115, 105, 111, 110]⟩ s), (rB 1 s 1000000)), ((fT ⟨#[115, 101, 113]⟩ q), (rB 1 q 1000000)), ((fT ⟨#[110, 111, 119]⟩ n), (rB 0 n 1000000000)), ((hT TH), (okB hS hH hL)), ((oT o), (ownB o)), ((fT ⟨#[115, 112, 97, 110]⟩ sp), (rB 1 sp 1000))].all (fun z => z.2)) = spC ⟨#[115, 113, 104, 111, 112]⟩ 8 s q n aS aH aL ab b hS hH hL o t sp := by
  unfold spC nB
  simp only [show hasB8 ⟨#[115, 113, 104, 111, 112]⟩ 115 = true from rfl, show hasB8 ⟨#[115, 113, 104, 111, 112]⟩ 113 = true from rfl, show hasB8 ⟨#[115, 113, 104, 111, 112]⟩ 116 = false from rfl, show hasB8 ⟨#[115, 113, 104, 111, 112]⟩ 112 = true from rfl, show hasB8 ⟨#[115, 113, 104, 111, 112]⟩ 97 = false from rfl, show hasB8 ⟨#[115, 113, 104, 111, 112]⟩ 98 = false from rfl, show hasB8 ⟨#[115, 113, 104, 111, 112]⟩ 104 = true from rfl, show hasB8 ⟨#[115, 113, 104, 111, 112]⟩ 111 = true from rfl, show rB 1 8 11 = true from rfl, if_true, if_false, Bool.false_eq_true, List.all_cons, List.all_nil, Bool.true_and, Bool.and_true]
  unfold zCm
  simp only [beq_self_eq_true, Bool.true_and, Bool.and_true, emp0]
  generalize (rB 1 s 1000000) = v0
  generalize (rB 1 q 1000000) = v1
  generalize (t == 0) = v2
  generalize (rB 1 sp 1000) = v3
  generalize (rB 0 n 1000000000) = v4
  generalize ((aS == false && (aH.toInt == 0 && aL.toInt == 0) && ab == 0)) = v5
  generalize (b == 0) = v6
  generalize (okB hS hH hL) = v7
  generalize (ownB o) = v8
  revert v0 v1 v2 v3 v4 v5 v6 v7 v8
  decide
theorem eq_9 (s q n : Int) (aS : Bool) (aH aL : BitVec 64) (ab b : Int) (hS : Bool) (hH hL : Int) (o : ByteArray) (t sp : Int) (_TA TH : List UInt8) : (zCm (0) (0) (0) (0) (aS) (aH.toInt) (aL.toInt) (ab) (b) (false) (0) (0) (o) (0) (0) && [((fT ⟨#[115, 101, 115, 115, 105, 111, 110]⟩ s), (rB 1 s 1000000)), ((fT ⟨#[115, 101, 113]⟩ q), (rB 1 q 1000000)), ((fT ⟨#[110, 111, 119]⟩ n), (rB 0 n 1000000000)), ((hT TH), (okB hS hH hL)), ((fT ⟨#[116, 111, 107, 101, 110]⟩ t), (rB 1 t 1000000000)), ((fT ⟨#[115, 112, 97, 110]⟩ sp), (rB 1 sp 1000))].all (fun z => z.2)) = spC ⟨#[115, 113, 104, 116, 112]⟩ 9 s q n aS aH aL ab b hS hH hL o t sp := by
  unfold spC nB
  simp only [show hasB8 ⟨#[115, 113, 104, 116, 112]⟩ 115 = true from rfl, show hasB8 ⟨#[115, 113, 104, 116, 112]⟩ 113 = true from rfl, show hasB8 ⟨#[115, 113, 104, 116, 112]⟩ 116 = true from rfl, show hasB8 ⟨#[115, 113, 104, 116, 112]⟩ 112 = true from rfl, show hasB8 ⟨#[115, 113, 104, 116, 112]⟩ 97 = false from rfl, show hasB8 ⟨#[115, 113, 104, 116, 112]⟩ 98 = false from rfl, show hasB8 ⟨#[115, 113, 104, 116, 112]⟩ 104 = true from rfl, show hasB8 ⟨#[115, 113, 104, 116, 112]⟩ 111 = false from rfl, show rB 1 9 11 = true from rfl, if_true, if_false, Bool.false_eq_true, List.all_cons, List.all_nil, Bool.true_and, Bool.and_true]
  unfold zCm
  simp only [beq_self_eq_true, Bool.true_and, Bool.and_true]
  generalize (rB 1 s 1000000) = v0
  generalize (rB 1 q 1000000) = v1
  generalize (rB 1 t 1000000000) = v2
  generalize (rB 1 sp 1000) = v3
  generalize (rB 0 n 1000000000) = v4
  generalize ((aS == false && (aH.toInt == 0 && aL.toInt == 0) && ab == 0)) = v5
  generalize (b == 0) = v6
  generalize (okB hS hH hL) = v7
  generalize (o.toList.isEmpty) = v8
  revert v0 v1 v2 v3 v4 v5 v6 v7 v8
  decide
theorem eq_10 (s q n : Int) (aS : Bool) (aH aL : BitVec 64) (ab b : Int) (hS : Bool) (hH hL : Int) (o : ByteArray) (t sp : Int) (_TA TH : List UInt8) : (zCm (0) (0) (0) (0) (aS) (aH.toInt) (aL.toInt) (ab) (b) (false) (0) (0) (o) (0) (sp) && [((fT ⟨#[115, 101, 115, 115, 105, 111, 110]⟩ s), (rB 1 s 1000000)), ((fT ⟨#[115, 101, 113]⟩ q), (rB 1 q 1000000)), ((fT ⟨#[110, 111, 119]⟩ n), (rB 0 n 1000000000)), ((hT TH), (okB hS hH hL)), ((fT ⟨#[116, 111, 107, 101, 110]⟩ t), (rB 1 t 1000000000))].all (fun z => z.2)) = spC ⟨#[115, 113, 104, 116]⟩ 10 s q n aS aH aL ab b hS hH hL o t sp := by
  unfold spC nB
  simp only [show hasB8 ⟨#[115, 113, 104, 116]⟩ 115 = true from rfl, show hasB8 ⟨#[115, 113, 104, 116]⟩ 113 = true from rfl, show hasB8 ⟨#[115, 113, 104, 116]⟩ 116 = true from rfl, show hasB8 ⟨#[115, 113, 104, 116]⟩ 112 = false from rfl, show hasB8 ⟨#[115, 113, 104, 116]⟩ 97 = false from rfl, show hasB8 ⟨#[115, 113, 104, 116]⟩ 98 = false from rfl, show hasB8 ⟨#[115, 113, 104, 116]⟩ 104 = true from rfl, show hasB8 ⟨#[115, 113, 104, 116]⟩ 111 = false from rfl, show rB 1 10 11 = true from rfl, if_true, if_false, Bool.false_eq_true, List.all_cons, List.all_nil, Bool.true_and, Bool.and_true]
  unfold zCm
  simp only [beq_self_eq_true, Bool.true_and, Bool.and_true]
  generalize (rB 1 s 1000000) = v0
  generalize (rB 1 q 1000000) = v1
  generalize (rB 1 t 1000000000) = v2
  generalize (sp == 0) = v3
  generalize (rB 0 n 1000000000) = v4
  generalize ((aS == false && (aH.toInt == 0 && aL.toInt == 0) && ab == 0)) = v5
  generalize (b == 0) = v6
  generalize (okB hS hH hL) = v7
  generalize (o.toList.isEmpty) = v8
  revert v0 v1 v2 v3 v4 v5 v6 v7 v8
  decide
theorem eq_11 (s q n : Int) (aS : Bool) (aH aL : BitVec 64) (ab b : Int) (hS : Bool) (hH hL : Int) (o : ByteArray) (t sp : Int) (_TA _TH : List UInt8) : (zCm (0) (s) (q) (0) (aS) (aH.toInt) (aL.toInt) (ab) (b) (hS) (hH) (hL) (o) (t) (sp) && [((fT ⟨#[110, 111, 119]⟩ n), (rB 0 n 1000000000))].all (fun z => z.2)) = spC ⟨#[]⟩ 11 s q n aS aH aL ab b hS hH hL o t sp := by
  unfold spC nB
  simp only [show hasB8 ⟨#[]⟩ 115 = false from rfl, show hasB8 ⟨#[]⟩ 113 = false from rfl, show hasB8 ⟨#[]⟩ 116 = false from rfl, show hasB8 ⟨#[]⟩ 112 = false from rfl, show hasB8 ⟨#[]⟩ 97 = false from rfl, show hasB8 ⟨#[]⟩ 98 = false from rfl, show hasB8 ⟨#[]⟩ 104 = false from rfl, show hasB8 ⟨#[]⟩ 111 = false from rfl, show rB 1 11 11 = true from rfl, if_false, Bool.false_eq_true, List.all_cons, List.all_nil, Bool.true_and, Bool.and_true]
  unfold zCm
  simp only [beq_self_eq_true, Bool.true_and]
  generalize (s == 0) = v0
  generalize (q == 0) = v1
  generalize (t == 0) = v2
  generalize (sp == 0) = v3
  generalize (rB 0 n 1000000000) = v4
  generalize ((aS == false && (aH.toInt == 0 && aL.toInt == 0) && ab == 0)) = v5
  generalize (b == 0) = v6
  generalize ((hS == false && (hH == 0 && hL == 0))) = v7
  generalize (o.toList.isEmpty) = v8
  revert v0 v1 v2 v3 v4 v5 v6 v7 v8
  decide

end Go.Proofs.YtnchndcanhmbeaaGreatDoor
