/-
  The laws' marking of a row of bytes that the call owns, and the look whether the marks still stand; nothing turns but the row that is marked.
-/
import Derived.Test.YtamaanbnlnpjcaaCByt
namespace Go.Proofs.Ytamaanbnlnpjcaa
open Go.RowKit

/-- The marks k, k + 1 .. of n bytes. -/
def mks (k : Int) (n : Nat) : List Int := (List.range n).map fun (j : Nat) => IntKind.u8.wrap (k + (j : Int))
theorem mks_len (k : Int) (n : Nat) : (mks k n).length = n := by simp [mks]
theorem mks_at (k : Int) (n j : Nat) (h : j < n) : (mks k n)[j]? = some (IntKind.u8.wrap (k + (j : Int))) := by simp [mks, h]
theorem mks_step (k : Int) (n i : Nat) (zs : List Int) (hl : zs.length = n) (hi : i < n) :
    (((mks k i ++ zs.drop i).map (Value.int .u8)).set i (.int .u8 (IntKind.u8.wrap (k + (i : Int))))) = (mks k (i + 1) ++ zs.drop (i + 1)).map (Value.int .u8) := by
  have e : mks k (i + 1) = mks k i ++ [IntKind.u8.wrap (k + (i : Int))] := by simp [mks, List.range_succ]
  have hd : zs.drop i = zs[i] :: zs.drop (i + 1) := List.drop_eq_getElem_cons (by omega)
  rw [e, hd, List.map_append, List.set_append_right _ _ (by simp [mks]), List.map_cons]
  simp [mks]

set_option maxHeartbeats 1000000 in
theorem markByteS_any (a : Option Addr) (cap B : Nat) (zs : List Int) (k : Int) (w : World) (h : Own w B (.slice a zs.length cap) zs) (hl : zs.length ≤ 9000000000) (k0 : 0 ≤ k) (k1 : k ≤ 9000000000) :
    Calls Try.prog 59 #[.slice a zs.length cap, .int .i64 k] w fun e w' => e = .returned (.int .i64 (k + zs.length)) ∧ Own w' B (.slice a zs.length cap) (mks k zs.length) ∧ w.grownBy w' (Value.slice a zs.length cap).ownBlock := by
  obtain ⟨n, hn⟩ : ∃ n, n = zs.length := ⟨_, rfl⟩
  rw [← hn]
  rw [← hn] at hl h
  have hn' : zs.length = n := hn.symm
  clear hn
  by_cases h0 : n = 0
  · subst h0
    have HO : Hid (Own w B (.slice a 0 cap) zs) := h
    have HZ : Hid (zs = []) := List.length_eq_zero_iff.1 hn'
    clear h hn'
    go_enter Try.func59, Try.ntmps59
    go_wp2
    refine wp_loop_rounds 1 ?_
    rw [rounds_succ]
    go_wp2
    go_ret
    refine ⟨by simp, ?_, World.grownBy.refl _ _⟩
    have := HO.out; rw [HZ.out] at this; simpa [mks] using this
  · obtain ⟨g, rfl⟩ : ∃ g, a = some ⟨g, 0, none⟩ := by
      rcases h.2 with ⟨hv, _⟩ | ⟨g, cap', cur, hv, _⟩
      · simp at hv; omega
      · simp at hv; exact ⟨g, hv.1⟩
    have HO : Hid (w.ownsRow B 5 1 (.slice (some ⟨g, 0, none⟩) n cap) n ((mks k 0 ++ zs.drop 0).map (Value.int .u8))) := by
      unfold Hid; unfold Own at h; rw [hn'] at h; simpa [mks] using h
    have HN : Hid (zs.length = n) := hn'
    clear h hn'
    go_enter Try.func59, Try.ntmps59
    go_wp2
    go_loopw [1, 5] (fun t1 t5 wr => ∃ i : Nat, i ≤ n ∧ t5 = .int .i64 i ∧ t1 = .int .i64 (k + i) ∧ wr.ownsRow B 5 1 (.slice (some ⟨g, 0, none⟩) n cap) n ((mks k i ++ zs.drop i).map (Value.int .u8)) ∧ w.grownBy wr (some g)) (fun _ t5 _ => n - (intOf t5).toNat)
    case atStart => exact ⟨0, Nat.zero_le _, rfl, by simp, HO.out, World.grownBy.refl _ _⟩
    case round =>
      obtain ⟨i, hi, rfl, rfl, hown, hgr⟩ := hrel
      by_cases hlt : i < n
      · have ce : ∃ v, wr.cell? ⟨g, i, none⟩ = some v := by
          have h := hown.cellAt i (by omega)
          rw [h, List.getElem?_eq_getElem (by have := HN.out; simp [mks]; omega)]
          exact ⟨_, rfl⟩
        obtain ⟨v0, ce⟩ := ce
        have cf := hown.frozenAt i
        have st := hown.stored i (.int .u8 (IntKind.u8.wrap (k + (i : Int))))
        rw [mks_step k n i zs HN.out hlt] at st
        have HS : Hid (_ ∧ _) := st
        have HG : Hid (w.grownBy wr (some g)) := hgr
        clear st hown hgr HO
        go_wp2
        go_roundw
        case rel => exact ⟨i + 1, by omega, by go_num, by go_num, HS.out.1, HG.out.trans HS.out.2⟩
        case measure => simp [intOf]; omega
      · have hin : i = n := by omega
        subst hin
        have HS : Hid (Own wr B (.slice (some ⟨g, 0, none⟩) i cap) (mks k i)) := by
          unfold Hid Own
          rw [mks_len]
          rw [List.drop_of_length_le (by rw [HN.out]; exact Nat.le_refl _), List.append_nil] at hown
          exact hown
        have HG : Hid (w.grownBy wr (some g)) := hgr
        clear hown hgr HO
        go_wp2
        go_ret
        exact ⟨rfl, HS.out, HG.out⟩

set_option maxHeartbeats 1000000 in
theorem heldByteS_any (a : Option Addr) (cap n : Nat) (k : Int) (w : World) (h : Byt w a (mks k n)) (hl : n ≤ 9000000000) (k0 : 0 ≤ k) (k1 : k ≤ 9000000000) :
    Calls Try.prog 93 #[.slice a n cap, .int .i64 k] w fun e w' => e = .returned (.int .i64 (k + n)) ∧ Below w.heap.size w w' := by
  have HB : Hid (Byt w a (mks k n)) := h
  clear h
  go_enter Try.func93, Try.ntmps93
  go_wp2
  go_loop [1, 5] (fun t1 t5 => ∃ i : Nat, i ≤ n ∧ t5 = .int .i64 i ∧ t1 = .int .i64 (k + i)) (fun _ t5 => n - (intOf t5).toNat)
  case atStart => exact ⟨0, Nat.zero_le _, rfl, by simp⟩
  case round =>
    obtain ⟨i, hi, rfl, rfl⟩ := hrel
    by_cases hlt : i < n
    · obtain ⟨p, o, z, rfl, hp, hc, hz⟩ := HB.out i (by rw [mks_len]; exact hlt)
      rw [mks_at k n i hlt] at hz
      have hz' : IntKind.u8.wrap (k + (i : Int)) = z := by simpa using hz
      subst hz'
      clear hz
      have hb1 : (IntKind.u8.wrap (k + (i : Int)) != IntKind.u8.wrap (k + (i : Int))) = false := by simp
      go_wp2
      go_round
      case rel => exact ⟨i + 1, by omega, by go_num, by go_num⟩
      case measure => simp [intOf]; omega
    · have hin : i = n := by omega
      subst hin
      go_wp2
      go_ret
      exact ⟨rfl, Below.refl _ _⟩

end Go.Proofs.Ytamaanbnlnpjcaa
