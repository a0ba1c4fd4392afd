/-
  Rows of entries of one's own, each entry's bytes in a row of one's own elsewhere; entries that hold the same.
-/
import Derived.Test.YtamaanbnlnpjcaaV13K
namespace Go.Proofs.Ytamaanbnlnpjcaa
open Go.ChangeShapes Go.WideShapes Go.ChangeAt Go.RowKit Go.Joins Go.Deep

/-- An entry whose bytes lie in a row of one's own, elsewhere than in the block G. -/
structure EnO (w : World) (B G : Nat) (e : En) : Prop where
  hn : e.n = e.zs.length
  ho : Oct e.zs
  own : OwnG KBy 5 w B (.slice e.a e.n e.c) e.zs
  ne : ∀ k, (Value.slice e.a e.n e.c).ownBlock = some k → k ≠ G
theorem EnO.dat {w : World} {B G : Nat} {e : En} (h : EnO w B G e) : DatR w e := ⟨h.hn, h.ho, h.own.row⟩
theorem EnO.later {w w' : World} {B G : Nat} {e : En} (h : EnO w B G e) (hb : Below w.heap.size w w') : EnO w' B G e := ⟨h.hn, h.ho, h.own.later hb, h.ne⟩
theorem EnO.grown {w w' : World} {B G : Nat} {e : En} (h : EnO w B G e) (hg : w.grownBy w' (some G)) : EnO w' B G e := ⟨h.hn, h.ho, h.own.grown hg (fun k hk he => h.ne k hk (Option.some.inj he).symm), h.ne⟩
theorem EnO.set {w : World} {B G : Nat} {e : En} (h : EnO w B G e) (o : Nat) (v : Value) : EnO (w.setCell ⟨G, o, none⟩ v) B G e := h.grown (grown_cellG _ _ _ _)
/-- What an entry holds. -/
def En.key (e : En) : Int × Int × Nat × List Int := (e.T, e.K, e.n, e.zs)
theorem key_ok {e f : En} (h : e.key = f.key) : e.ok = f.ok := by
  unfold En.key at h
  simp only [Prod.mk.injEq] at h
  unfold En.ok
  rw [h.1, h.2.1, h.2.2.1, h.2.2.2]
theorem key_T {e f : En} (h : e.key = f.key) : e.T = f.T := congrArg (fun x => x.1) h
theorem ris_key : ∀ {es fs : List En} (l : Int), es.map En.key = fs.map En.key → risE l es = risE l fs ∧ lasE l es = lasE l fs
  | [], [], _, _ => ⟨rfl, rfl⟩
  | [], _ :: _, _, h => by simp at h
  | _ :: _, [], _, h => by simp at h
  | e :: t, f :: u, l, h => by
      simp only [List.map_cons, List.cons.injEq] at h
      have h1 := ris_key e.T h.2
      rw [risE_split, risE_split, lasE_cons, lasE_cons, ← key_ok h.1, ← key_T h.1, h1.1, h1.2]
      exact ⟨rfl, rfl⟩
/-- Its bytes begin their block, and have no room behind them. -/
def EnF (e : En) : Prop := (∃ g, e.a = some ⟨g, 0, none⟩) ∧ e.c = e.n
def En.zero : En := ⟨0, 0, none, 0, 0, []⟩
theorem rowEn0 {w : World} {g n cap B : Nat} {t : TypeId} {es : List En} (h : OwnG KEn t w B (.slice (some ⟨g, 0, none⟩) n cap) es) (j : Nat) (hj : j < es.length) : ∃ q, g < w.heap.size ∧ es[j]? = some q ∧
    w.cell? ⟨g, j * 3, none⟩ = some (.int .i64 q.T) ∧ w.cell? ⟨g, j * 3 + 1, none⟩ = some (.int .i64 q.K) ∧ w.cell? ⟨g, j * 3 + 2, none⟩ = some (.slice q.a q.n q.c) := by
  obtain ⟨p, o, q, ha, hp, hq, c0, c1, c2⟩ := rowEn h.row j hj
  simp only [Option.some.injEq, Addr.mk.injEq, and_true] at ha
  obtain ⟨rfl, rfl⟩ := ha
  rw [Nat.zero_add] at c0 c1 c2
  exact ⟨q, hp, hq, c0, c1, c2⟩
theorem putEn {t : TypeId} {w : World} {B g n cap : Nat} {es : List En} (h : OwnG KEn t w B (.slice (some ⟨g, 0, none⟩) n cap) es) (hn : n = es.length) (j : Nat) (hj : j < n) (q : En) :
    OwnG KEn t (((w.setCell ⟨g, j * 3, none⟩ (.int .i64 q.T)).setCell ⟨g, j * 3 + 1, none⟩ (.int .i64 q.K)).setCell ⟨g, j * 3 + 2, none⟩ (.slice q.a q.n q.c)) B (.slice (some ⟨g, 0, none⟩) n cap) (es.set j q) := h.put hn j hj q
theorem frzEn {t : TypeId} {w : World} {B g n cap : Nat} {es : List En} (h : OwnG KEn t w B (.slice (some ⟨g, 0, none⟩) n cap) es) (j : Nat) :
    w.frozen? ⟨g, j * 3, none⟩ = false ∧ w.frozen? ⟨g, j * 3 + 1, none⟩ = false ∧ w.frozen? ⟨g, j * 3 + 2, none⟩ = false := ⟨h.frozen _, h.frozen _, h.frozen _⟩
theorem set_lastE (fs : List En) (m : Nat) (z q : En) : (fs ++ List.replicate (m + 1) z).set fs.length q = (fs ++ [q]) ++ List.replicate m z := by
  rw [List.set_append_right _ _ (Nat.le_refl _), Nat.sub_self, List.replicate_succ, List.set_cons_zero, List.append_assoc]; rfl

end Go.Proofs.Ytamaanbnlnpjcaa
