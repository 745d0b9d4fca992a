import PyProof.Rows.All
import Wide.All
import OpenK.AllK
import Wide.FinOn
import HandS.ForMost
import HandS.Wide
import HandS.Evl
import HandS.Flow
import HandS.IsInst
import HandS.TupAny
import HandS.TupMul
import PySem.Challenge.RW_boxfall_k07_plain_rows
set_option Elab.async false
set_option linter.all false
set_option maxRecDepth 100000
set_option maxHeartbeats 4000000
/-! Hk1: a def as a plain function over data and cells: the state, its relation to the heap, the judgements. -/
namespace Hk
open PySem PySem.Spec PyProof.Rows L2 Evl

/-- data that stands still; an object of an own class that is never changed; a dict that is never changed -/
inductive Dt where
  | non | bl (b : Bool) | int (i : Int) | str (s : Str)
  | lst (xs : List Dt) | tup (xs : List Dt) | sq (xs : List Dt)
  | obj (C : Addr) (ns : List Str) (ds : List Dt)
  | dic (ks : List Key) (ds : List Dt)
/-- a value: data, or the k-th cell -/
inductive Vl where
  | d (d : Dt) | c (k : Nat)
/-- a cell: a list that may change; one that is data by now; any other thing at its address -/
inductive Ce where
  | dead | lst (xs : List Dt) | pin (o : HO)
structure En where
  sl : List (Option Vl)
  ce : List Ce

mutual
def Rp (K : PySem.W.Frag) (H : Hp) : Dt → V → Prop
  | .non, v => v = .non
  | .bl b, v => v = .bl b
  | .int i, v => v = .int i
  | .str s, v => v = .str s
  | .lst ds, v => ∃ a xs, v = .ref a ∧ H a = some (.lst xs) ∧ RpA K H ds xs
  | .sq ds, v => ∃ a xs, v = .ref a ∧ SqL K H a xs ∧ RpA K H ds xs
  | .tup ds, v => ∃ a xs, v = .ref a ∧ SqT K H a xs ∧ RpA K H ds xs
  | .obj C ns ds, v => ∃ a dx fs, v = .ref a ∧ H a = some (.ins C dx fs) ∧ fs.map (·.1) = ns ∧ RpA K H ds (fs.map (·.2))
  | .dic ks ds, v => ∃ a kvs, v = .ref a ∧ H a = some (.dK kvs) ∧ kvs.map (·.1) = ks ∧ RpA K H ds (kvs.map (·.2))
def RpA (K : PySem.W.Frag) (H : Hp) : List Dt → List V → Prop
  | [], xs => xs = []
  | d :: ds, xs => ∃ x r, xs = x :: r ∧ Rp K H d x ∧ RpA K H ds r
end

mutual
theorem Rp.ex {K : PySem.W.Frag} {H H' : Hp} (e : Ex H H') : ∀ (d : Dt) (v : V), Rp K H d v → Rp K H' d v
  | .non, v, h => h
  | .bl _, v, h => h
  | .int _, v, h => h
  | .str _, v, h => h
  | .lst ds, v, h => by
    obtain ⟨a, xs, h1, h2, h3⟩ := h
    exact ⟨a, xs, h1, e a _ h2, RpA.ex e ds xs h3⟩
  | .sq ds, v, h => by
    obtain ⟨a, xs, h1, h2, h3⟩ := h
    exact ⟨a, xs, h1, ex_l e h2, RpA.ex e ds xs h3⟩
  | .tup ds, v, h => by
    obtain ⟨a, xs, h1, h2, h3⟩ := h
    exact ⟨a, xs, h1, ex_t e h2, RpA.ex e ds xs h3⟩
  | .obj C ns ds, v, h => by
    obtain ⟨a, dx, fs, h1, h2, h3, h4⟩ := h
    exact ⟨a, dx, fs, h1, e a _ h2, h3, RpA.ex e ds _ h4⟩
  | .dic ks ds, v, h => by
    obtain ⟨a, kvs, h1, h2, h3, h4⟩ := h
    exact ⟨a, kvs, h1, e a _ h2, h3, RpA.ex e ds _ h4⟩
theorem RpA.ex {K : PySem.W.Frag} {H H' : Hp} (e : Ex H H') : ∀ (ds : List Dt) (vs : List V), RpA K H ds vs → RpA K H' ds vs
  | [], vs, h => h
  | d :: ds, vs, h => by
    obtain ⟨x, r, h1, h2, h3⟩ := h
    exact ⟨x, r, h1, Rp.ex e d x h2, RpA.ex e ds r h3⟩
end

section
variable {K : PySem.W.Frag} {H Hd : Hp}
theorem RpA.len : ∀ {ds : List Dt} {vs : List V}, RpA K H ds vs → vs.length = ds.length
  | [], vs, h => by
    rw [show vs = [] from h]
    rfl
  | d :: ds, vs, h => by
    obtain ⟨x, r, rfl, _, h3⟩ := h
    rw [List.length_cons, List.length_cons, RpA.len h3]
theorem RpA.at : ∀ {ds : List Dt} {vs : List V} {i : Nat} {d : Dt}, RpA K H ds vs → ds[i]? = some d → ∃ v, vs[i]? = some v ∧ Rp K H d v
  | [], vs, i, d, h, e => by simp at e
  | d :: ds, vs, 0, d', h, e => by
    obtain ⟨x, r, rfl, h2, h3⟩ := h
    have e2 : d = d' := Option.some.inj e
    exact ⟨x, rfl, e2 ▸ h2⟩
  | d :: ds, vs, i + 1, d', h, e => by
    obtain ⟨x, r, rfl, h2, h3⟩ := h
    obtain ⟨v, g1, g2⟩ := RpA.at (i := i) h3 e
    exact ⟨v, g1, g2⟩
theorem RpA.app : ∀ {ds es : List Dt} {vs us : List V}, RpA K H ds vs → RpA K H es us → RpA K H (ds ++ es) (vs ++ us)
  | [], es, vs, us, h, g => by
    rw [show vs = [] from h]
    exact g
  | d :: ds, es, vs, us, h, g => by
    obtain ⟨x, r, rfl, h2, h3⟩ := h
    exact ⟨x, r ++ us, rfl, h2, RpA.app h3 g⟩
theorem RpA.one {d : Dt} {v : V} (h : Rp K H d v) : RpA K H [d] [v] := ⟨v, [], rfl, h, rfl⟩
theorem RpA.drop : ∀ (n : Nat) {ds : List Dt} {vs : List V}, RpA K H ds vs → RpA K H (ds.drop n) (vs.drop n)
  | 0, ds, vs, h => h
  | n + 1, [], vs, h => by
    rw [show vs = [] from h]
    exact (rfl : ([] : List V) = [])
  | n + 1, d :: ds, vs, h => by
    obtain ⟨x, r, rfl, h2, h3⟩ := h
    exact RpA.drop n h3
theorem RpA.take : ∀ (n : Nat) {ds : List Dt} {vs : List V}, RpA K H ds vs → RpA K H (ds.take n) (vs.take n)
  | 0, ds, vs, h => (rfl : ([] : List V) = [])
  | n + 1, [], vs, h => by
    rw [show vs = [] from h]
    exact (rfl : ([] : List V) = [])
  | n + 1, d :: ds, vs, h => by
    obtain ⟨x, r, rfl, h2, h3⟩ := h
    exact ⟨x, r.take n, rfl, h2, RpA.take n h3⟩
theorem RpA.rep {d : Dt} {v : V} (h : Rp K H d v) : ∀ n, RpA K H (List.replicate n d) (List.replicate n v)
  | 0 => (rfl : ([] : List V) = [])
  | n + 1 => ⟨v, List.replicate n v, rfl, h, RpA.rep h n⟩
theorem RpA.dropLast : ∀ {ds : List Dt} {vs : List V}, RpA K H ds vs → RpA K H ds.dropLast vs.dropLast := fun {ds} {vs} h => by
  rw [List.dropLast_eq_take, List.dropLast_eq_take, RpA.len h]
  exact RpA.take _ h
theorem RpA.set : ∀ {ds : List Dt} {vs : List V} {d : Dt} {v : V} (j : Nat), RpA K H ds vs → Rp K H d v → RpA K H (ds.set j d) (vs.set j v)
  | [], vs, d, v, j, h, g => by
    rw [show vs = [] from h]
    exact (rfl : ([] : List V) = [])
  | d' :: ds, vs, d, v, 0, h, g => by
    obtain ⟨x, r, rfl, h2, h3⟩ := h
    exact ⟨v, r, rfl, g, h3⟩
  | d' :: ds, vs, d, v, j + 1, h, g => by
    obtain ⟨x, r, rfl, h2, h3⟩ := h
    exact ⟨x, r.set j v, rfl, h2, RpA.set j h3 g⟩

/-! ### values, cells, slots -/
def Rv (K : PySem.W.Frag) (μ : List Addr) (Hd : Hp) : Vl → V → Prop
  | .d d, v => Rp K Hd d v
  | .c k, v => ∃ a, μ[k]? = some a ∧ v = .ref a
structure Gr (μ : List Addr) (Hd : Hp) (μ' : List Addr) (Hd' : Hp) : Prop where
  pre : ∀ (k : Nat) (a : Addr), μ[k]? = some a → μ'[k]? = some a
  ex : Ex Hd Hd'
theorem Gr.refl (μ : List Addr) (Hd : Hp) : Gr μ Hd μ Hd := ⟨fun _ _ h => h, Ex.refl Hd⟩
theorem Gr.trans {μ μ1 μ2 : List Addr} {Hd H1 H2 : Hp} (a : Gr μ Hd μ1 H1) (b : Gr μ1 H1 μ2 H2) : Gr μ Hd μ2 H2 := ⟨fun k x h => b.pre k x (a.pre k x h), a.ex.trans b.ex⟩
theorem Rv.gr {μ μ' : List Addr} {Hd Hd' : Hp} (g : Gr μ Hd μ' Hd') : ∀ {r : Vl} {v : V}, Rv K μ Hd r v → Rv K μ' Hd' r v
  | .d d, v, h => Rp.ex g.ex d v h
  | .c k, v, ⟨a, h1, h2⟩ => ⟨a, g.pre k a h1, h2⟩
/-- what stands at a cell's address -/
def CeAt (K : PySem.W.Frag) (Hd H : Hp) (a : Addr) : Ce → Prop
  | .dead => True
  | .lst xs => Hd a = none ∧ ∃ vs, H a = some (.lst vs) ∧ RpA K Hd xs vs
  | .pin o => Hd a = none ∧ H a = some o
def Ce.live : Ce → Bool
  | .dead => false
  | _ => true
structure Wo (K : PySem.W.Frag) (μ : List Addr) (Hd H : Hp) (ce : List Ce) : Prop where
  ex : Ex Hd H
  len : μ.length = ce.length
  at_ : ∀ (k : Nat) (c : Ce) (a : Addr), ce[k]? = some c → μ[k]? = some a → CeAt K Hd H a c
  inj : ∀ (j k : Nat) (a : Addr) (c e : Ce), μ[j]? = some a → μ[k]? = some a → ce[j]? = some c → ce[k]? = some e → c.live = true → e.live = true → j = k
def Sl (K : PySem.W.Frag) (μ : List Addr) (Hd : Hp) (σ : L2.St) (sl : List (Option Vl)) : Prop :=
  σ.length = sl.length ∧ ∀ (i : Nat) (r : Vl), sl[i]? = some (some r) → ∃ v, σ[i]? = some (some v) ∧ Rv K μ Hd r v
structure Rl (K : PySem.W.Frag) (μ : List Addr) (Hd H : Hp) (σ : L2.St) (E : En) : Prop where
  wo : Wo K μ Hd H E.ce
  sl : Sl K μ Hd σ E.sl
theorem Sl.gr {μ μ' : List Addr} {Hd Hd' : Hp} {σ : L2.St} {sl : List (Option Vl)} (g : Gr μ Hd μ' Hd') (h : Sl K μ Hd σ sl) : Sl K μ' Hd' σ sl :=
  ⟨h.1, fun i r e => by
    obtain ⟨v, h1, h2⟩ := h.2 i r e
    exact ⟨v, h1, Rv.gr g h2⟩⟩
theorem Sl.set {μ : List Addr} {σ : L2.St} {sl : List (Option Vl)} {r : Vl} {v : V} (i : Nat) (h : Sl K μ Hd σ sl) (hv : Rv K μ Hd r v) : Sl K μ Hd (σ.set i (some v)) (sl.set i (some r)) := by
  refine ⟨by rw [List.length_set, List.length_set]; exact h.1, fun j q e => ?_⟩
  rw [List.getElem?_set] at e
  by_cases hij : i = j
  · subst hij
    rw [if_pos rfl] at e
    by_cases hl : i < sl.length
    · rw [if_pos hl] at e
      have e2 : r = q := Option.some.inj (Option.some.inj e)
      subst e2
      exact ⟨v, by rw [List.getElem?_set, if_pos rfl, if_pos (by rw [h.1]; exact hl)], hv⟩
    · rw [if_neg hl] at e
      cases e
  · rw [if_neg hij] at e
    obtain ⟨w, h1, h2⟩ := h.2 j q e
    exact ⟨w, by rw [List.getElem?_set, if_neg hij]; exact h1, h2⟩
/-- a slot forgotten -/
theorem Sl.wipe1 {μ : List Addr} {σ : L2.St} {sl : List (Option Vl)} (i : Nat) (h : Sl K μ Hd σ sl) : Sl K μ Hd (σ.set i none) (sl.set i none) := by
  refine ⟨by rw [List.length_set, List.length_set]; exact h.1, fun j q e => ?_⟩
  rw [List.getElem?_set] at e
  by_cases hij : i = j
  · subst hij
    rw [if_pos rfl] at e
    by_cases hl : i < sl.length
    · rw [if_pos hl] at e
      cases e
    · rw [if_neg hl] at e
      cases e
  · rw [if_neg hij] at e
    obtain ⟨w, h1, h2⟩ := h.2 j q e
    exact ⟨w, by rw [List.getElem?_set, if_neg hij]; exact h1, h2⟩

/-! ### what is seen of a value now; freezing; new things -/
def seeC : Option Ce → Option Dt
  | some (.lst xs) => some (.lst xs)
  | _ => none
def see (ce : List Ce) : Vl → Option Dt
  | .d d => some d
  | .c k => seeC ce[k]?
theorem seeC_some {o : Option Ce} {d : Dt} (h : seeC o = some d) : ∃ xs, o = some (.lst xs) ∧ d = .lst xs := by
  unfold seeC at h
  split at h
  · exact ⟨_, rfl, (Option.some.inj h).symm⟩
  · cases h
theorem see_ok {μ : List Addr} {ce : List Ce} {r : Vl} {v : V} {d : Dt} (w : Wo K μ Hd H ce) (hv : Rv K μ Hd r v) (h : see ce r = some d) : Rp K H d v := by
  cases r with
  | d d' =>
    have e : d' = d := Option.some.inj h
    subst e
    exact Rp.ex w.ex d' v hv
  | c k =>
    obtain ⟨xs, e1, rfl⟩ := seeC_some h
    obtain ⟨a, e2, rfl⟩ := hv
    obtain ⟨h1, vs, h2, h3⟩ := w.at_ k _ a e1 e2
    exact ⟨a, vs, rfl, h2, RpA.ex w.ex xs vs h3⟩
/-- a list that is seen: its items are data -/
theorem see_lst {μ : List Addr} {ce : List Ce} {r : Vl} {v : V} {ds : List Dt} (w : Wo K μ Hd H ce) (hv : Rv K μ Hd r v) (h : see ce r = some (.lst ds)) : ∃ a vs, v = .ref a ∧ H a = some (.lst vs) ∧ RpA K Hd ds vs := by
  cases r with
  | d d' =>
    have e : d' = .lst ds := Option.some.inj h
    subst e
    obtain ⟨a, vs, h1, h2, h3⟩ := hv
    exact ⟨a, vs, h1, w.ex a _ h2, h3⟩
  | c k =>
    obtain ⟨xs, e1, e2⟩ := seeC_some h
    cases e2
    obtain ⟨a, e2, rfl⟩ := hv
    obtain ⟨h1, vs, h2, h3⟩ := w.at_ k _ a e1 e2
    exact ⟨a, vs, rfl, h2, h3⟩
theorem see_sq {μ : List Addr} {ce : List Ce} {r : Vl} {v : V} {ds : List Dt} (w : Wo K μ Hd H ce) (hv : Rv K μ Hd r v) (h : see ce r = some (.sq ds)) : ∃ a vs, v = .ref a ∧ SqL K H a vs ∧ RpA K Hd ds vs := by
  cases r with
  | d d' =>
    have e : d' = .sq ds := Option.some.inj h
    subst e
    obtain ⟨a, vs, h1, h2, h3⟩ := hv
    exact ⟨a, vs, h1, ex_l w.ex h2, h3⟩
  | c k =>
    obtain ⟨xs, e1, e2⟩ := seeC_some h
    cases e2
theorem see_tup {μ : List Addr} {ce : List Ce} {r : Vl} {v : V} {ds : List Dt} (w : Wo K μ Hd H ce) (hv : Rv K μ Hd r v) (h : see ce r = some (.tup ds)) : ∃ a vs, v = .ref a ∧ SqT K H a vs ∧ RpA K Hd ds vs := by
  cases r with
  | d d' =>
    have e : d' = .tup ds := Option.some.inj h
    subst e
    obtain ⟨a, vs, h1, h2, h3⟩ := hv
    exact ⟨a, vs, h1, ex_t w.ex h2, h3⟩
  | c k =>
    obtain ⟨xs, e1, e2⟩ := seeC_some h
    cases e2
theorem see_flat {μ : List Addr} {ce : List Ce} {r : Vl} {v : V} {d : Dt} (hv : Rv K μ Hd r v) (h : see ce r = some d) (hd : ∀ xs, d ≠ .lst xs) : r = .d d := by
  cases r with
  | d d' => rw [Option.some.inj h]
  | c k =>
    obtain ⟨xs, e1, rfl⟩ := seeC_some h
    exact absurd rfl (hd xs)
/-- new data at a free place -/
theorem Wo.newD {μ : List Addr} {ce : List Ce} {p : Addr} {o : HO} (w : Wo K μ Hd H ce) (hp : H p = none) : Wo K μ (upd Hd p o) (upd H p o) ce := by
  refine ⟨fun a u e => ?_, w.len, fun k c a h1 h2 => ?_, w.inj⟩
  · unfold upd at e ⊢
    by_cases h : a = p
    · rw [if_pos h] at e ⊢
      exact e
    · rw [if_neg h] at e ⊢
      exact w.ex a u e
  · have q := w.at_ k c a h1 h2
    cases c with
    | dead => exact True.intro
    | lst xs =>
      obtain ⟨g1, vs, g2, g3⟩ := q
      have na : a ≠ p := ne_of_none g2 hp
      refine ⟨by rw [upd_ne na]; exact g1, vs, by rw [upd_ne na]; exact g2, RpA.ex (Ex.new (fresh_back w.ex hp)) xs vs g3⟩
    | pin u =>
      obtain ⟨g1, g2⟩ := q
      have na : a ≠ p := ne_of_none g2 hp
      exact ⟨by rw [upd_ne na]; exact g1, by rw [upd_ne na]; exact g2⟩
theorem Rl.newD {μ : List Addr} {σ : L2.St} {E : En} {p : Addr} {o : HO} (R : Rl K μ Hd H σ E) (hp : H p = none) : Gr μ Hd μ (upd Hd p o) ∧ Rl K μ (upd Hd p o) (upd H p o) σ E := by
  have g : Gr μ Hd μ (upd Hd p o) := ⟨fun _ _ h => h, Ex.new (fresh_back R.wo.ex hp)⟩
  exact ⟨g, R.wo.newD hp, R.sl.gr g⟩
theorem get_append_one {α : Type} {l : List α} {x : α} {k : Nat} {y : α} (h : (l ++ [x])[k]? = some y) : l[k]? = some y ∨ (k = l.length ∧ y = x) := by
  rw [List.getElem?_append] at h
  by_cases hk : k < l.length
  · rw [if_pos hk] at h
    exact .inl h
  · rw [if_neg hk] at h
    by_cases h0 : k - l.length = 0
    · rw [h0] at h
      exact .inr ⟨by omega, (Option.some.inj h).symm⟩
    · rw [List.getElem?_eq_none (by simp; omega)] at h
      cases h
/-- a new cell at a free place -/
theorem Wo.newC {μ : List Addr} {ce : List Ce} {p : Addr} {o : HO} {c : Ce} (w : Wo K μ Hd H ce) (hp : H p = none) (hc : CeAt K Hd (upd H p o) p c) : Wo K (μ ++ [p]) Hd (upd H p o) (ce ++ [c]) := by
  have hdp : Hd p = none := fresh_back w.ex hp
  have keep : ∀ (k : Nat) (c : Ce) (a : Addr), ce[k]? = some c → μ[k]? = some a → c.live = true → a ≠ p := fun k c a h1 h2 hl => by
    have q := w.at_ k c a h1 h2
    cases c with
    | dead => cases hl
    | lst xs =>
      obtain ⟨g1, vs, g2, g3⟩ := q
      exact ne_of_none g2 hp
    | pin u =>
      obtain ⟨g1, g2⟩ := q
      exact ne_of_none g2 hp
  refine ⟨fun a u e => ?_, by rw [List.length_append, List.length_append, w.len]; rfl, fun k e a h1 h2 => ?_, fun j k a e1 e2 h1 h2 h3 h4 l1 l2 => ?_⟩
  · have h := w.ex a u e
    rw [upd_ne (ne_of_none h hp)]
    exact h
  · rcases get_append_one h1 with h1 | ⟨h1, rfl⟩
    · rcases get_append_one h2 with h2 | ⟨h2, rfl⟩
      · have q := w.at_ k e a h1 h2
        cases e with
        | dead => exact True.intro
        | lst xs =>
          obtain ⟨g1, vs, g2, g3⟩ := q
          exact ⟨g1, vs, by rw [upd_ne (ne_of_none g2 hp)]; exact g2, g3⟩
        | pin u =>
          obtain ⟨g1, g2⟩ := q
          exact ⟨g1, by rw [upd_ne (ne_of_none g2 hp)]; exact g2⟩
      · have := (List.getElem?_eq_some_iff.mp h1).1
        have := w.len
        omega
    · rcases get_append_one h2 with h2 | ⟨h2, rfl⟩
      · have := (List.getElem?_eq_some_iff.mp h2).1
        have := w.len
        omega
      · exact hc
  · rcases get_append_one h1 with h1 | ⟨h1, p1⟩ <;> rcases get_append_one h3 with h3 | ⟨h3, q1⟩
    · rcases get_append_one h2 with h2 | ⟨h2, p2⟩ <;> rcases get_append_one h4 with h4 | ⟨h4, q2⟩
      · exact w.inj j k a e1 e2 h1 h2 h3 h4 l1 l2
      · have := (List.getElem?_eq_some_iff.mp h2).1
        have := w.len
        omega
      · have := (List.getElem?_eq_some_iff.mp h4).1
        have := w.len
        omega
      · exact absurd p2 (keep j e1 a h3 h1 l1)
    · have := (List.getElem?_eq_some_iff.mp h1).1
      have := w.len
      omega
    · have := (List.getElem?_eq_some_iff.mp h3).1
      have := w.len
      omega
    · rcases get_append_one h2 with h2 | ⟨h2, p2⟩ <;> rcases get_append_one h4 with h4 | ⟨h4, q2⟩
      · exact absurd p1 (keep k e2 a h4 h2 l2)
      · have := (List.getElem?_eq_some_iff.mp h2).1
        have := w.len
        omega
      · have := (List.getElem?_eq_some_iff.mp h4).1
        have := w.len
        omega
      · have := w.len
        omega
theorem pre_app {μ : List Addr} {p : Addr} : ∀ (k : Nat) (a : Addr), μ[k]? = some a → (μ ++ [p])[k]? = some a := fun k a h => by
  rw [List.getElem?_append_left (List.getElem?_eq_some_iff.mp h).1]
  exact h
theorem Rl.newC {μ : List Addr} {σ : L2.St} {E : En} {p : Addr} {xs : List Dt} {vs : List V} (R : Rl K μ Hd H σ E) (hp : H p = none) (h : RpA K Hd xs vs) :
    Gr μ Hd (μ ++ [p]) Hd ∧ Rl K (μ ++ [p]) Hd (upd H p (.lst vs)) σ ⟨E.sl, E.ce ++ [.lst xs]⟩ ∧ Rv K (μ ++ [p]) Hd (.c E.ce.length) (.ref p) := by
  have g : Gr μ Hd (μ ++ [p]) Hd := ⟨pre_app, Ex.refl Hd⟩
  refine ⟨g, ⟨R.wo.newC hp ⟨fresh_back R.wo.ex hp, vs, upd_same, h⟩, R.sl.gr g⟩, p, ?_, rfl⟩
  rw [← R.wo.len]
  simp
/-- a cell's list changes -/
theorem Rl.setC {μ : List Addr} {σ : L2.St} {E : En} {k : Nat} {a : Addr} {xs ys : List Dt} {vs : List V} (R : Rl K μ Hd H σ E) (hk : E.ce[k]? = some (.lst xs)) (ha : μ[k]? = some a) (h : RpA K Hd ys vs) :
    Rl K μ Hd (upd H a (.lst vs)) σ ⟨E.sl, E.ce.set k (.lst ys)⟩ := by
  obtain ⟨g1, us, g2, g3⟩ := R.wo.at_ k _ a hk ha
  refine ⟨⟨fun b u e => ?_, by rw [List.length_set]; exact R.wo.len, fun j c b h1 h2 => ?_, fun i j b c e h1 h2 h3 h4 l1 l2 => ?_⟩, R.sl⟩
  · have q := R.wo.ex b u e
    have nb : b ≠ a := fun z => by
      subst z
      rw [g1] at e
      cases e
    rw [upd_ne nb]
    exact q
  · have h1 : (E.ce.set k (.lst ys))[j]? = some c := h1
    rw [List.getElem?_set] at h1
    by_cases hj : k = j
    · subst hj
      rw [if_pos rfl, if_pos (List.getElem?_eq_some_iff.mp hk).1] at h1
      cases h1
      rw [ha] at h2
      cases h2
      exact ⟨g1, vs, upd_same, h⟩
    · rw [if_neg hj] at h1
      have q := R.wo.at_ j c b h1 h2
      cases c with
      | dead => exact True.intro
      | lst zs =>
        have nb : b ≠ a := fun z => hj (by
          subst z
          exact (R.wo.inj j k b _ _ h2 ha h1 hk rfl rfl).symm)
        obtain ⟨q1, ws, q2, q3⟩ := q
        exact ⟨q1, ws, by rw [upd_ne nb]; exact q2, q3⟩
      | pin o =>
        have nb : b ≠ a := fun z => hj (by
          subst z
          exact (R.wo.inj j k b _ _ h2 ha h1 hk rfl rfl).symm)
        obtain ⟨q1, q2⟩ := q
        exact ⟨q1, by rw [upd_ne nb]; exact q2⟩
  · have live : ∀ (j : Nat) (c : Ce), (E.ce.set k (.lst ys))[j]? = some c → c.live = true → ∃ c', E.ce[j]? = some c' ∧ c'.live = true := fun j c hj hc => by
      rw [List.getElem?_set] at hj
      by_cases hkj : k = j
      · subst hkj
        exact ⟨_, hk, rfl⟩
      · rw [if_neg hkj] at hj
        exact ⟨c, hj, hc⟩
    obtain ⟨c1, d1, d2⟩ := live i c h3 l1
    obtain ⟨c2, d3, d4⟩ := live j e h4 l2
    exact R.wo.inj i j b c1 c2 h1 h2 d1 d3 d2 d4
/-- a cell's list becomes data -/
def frzV (k : Nat) (xs : List Dt) : Vl → Vl
  | .d d => .d d
  | .c j => if j = k then .d (.lst xs) else .c j
def frz (k : Nat) (xs : List Dt) (E : En) : En := ⟨E.sl.map (Option.map (frzV k xs)), E.ce.set k .dead⟩
theorem Rl.frz {μ : List Addr} {σ : L2.St} {E : En} {k : Nat} {a : Addr} {xs : List Dt} (R : Rl K μ Hd H σ E) (hk : E.ce[k]? = some (.lst xs)) (ha : μ[k]? = some a) :
    ∃ Hd', Gr μ Hd μ Hd' ∧ Rl K μ Hd' H σ (frz k xs E) ∧ Rp K Hd' (.lst xs) (.ref a) := by
  obtain ⟨g1, us, g2, g3⟩ := R.wo.at_ k _ a hk ha
  have gx : Ex Hd (upd Hd a (.lst us)) := Ex.new g1
  have g : Gr μ Hd μ (upd Hd a (.lst us)) := ⟨fun _ _ h => h, gx⟩
  have hp : Rp K (upd Hd a (.lst us)) (.lst xs) (.ref a) := ⟨a, us, rfl, upd_same, RpA.ex gx xs us g3⟩
  refine ⟨upd Hd a (.lst us), g, ⟨⟨fun b u e => ?_, by unfold Hk.frz; rw [List.length_set]; exact R.wo.len, fun j c b h1 h2 => ?_, fun i j b c e h1 h2 h3 h4 l1 l2 => ?_⟩, ?_⟩, hp⟩
  · by_cases hb : b = a
    · subst hb
      rw [upd_same] at e
      cases e
      exact g2
    · rw [upd_ne hb] at e
      exact R.wo.ex b u e
  · have h1 : (E.ce.set k .dead)[j]? = some c := h1
    rw [List.getElem?_set] at h1
    by_cases hj : k = j
    · subst hj
      rw [if_pos rfl, if_pos (List.getElem?_eq_some_iff.mp hk).1] at h1
      cases h1
      exact True.intro
    · rw [if_neg hj] at h1
      have q := R.wo.at_ j c b h1 h2
      cases c with
      | dead => exact True.intro
      | lst zs =>
        have nb : b ≠ a := fun z => hj (by
          subst z
          exact (R.wo.inj j k b _ _ h2 ha h1 hk rfl rfl).symm)
        obtain ⟨q1, ws, q2, q3⟩ := q
        exact ⟨by rw [upd_ne nb]; exact q1, ws, q2, RpA.ex gx zs ws q3⟩
      | pin o =>
        have nb : b ≠ a := fun z => hj (by
          subst z
          exact (R.wo.inj j k b _ _ h2 ha h1 hk rfl rfl).symm)
        obtain ⟨q1, q2⟩ := q
        exact ⟨by rw [upd_ne nb]; exact q1, q2⟩
  · have live : ∀ (j : Nat) (c : Ce), (E.ce.set k .dead)[j]? = some c → c.live = true → E.ce[j]? = some c := fun j c hj hc => by
      rw [List.getElem?_set] at hj
      by_cases hkj : k = j
      · subst hkj
        rw [if_pos rfl, if_pos (List.getElem?_eq_some_iff.mp hk).1] at hj
        cases hj
        cases hc
      · rw [if_neg hkj] at hj
        exact hj
    exact R.wo.inj i j b c e h1 h2 (live i c h3 l1) (live j e h4 l2) l1 l2
  · refine ⟨by show σ.length = (E.sl.map _).length; rw [List.length_map]; exact R.sl.1, fun i r e => ?_⟩
    have e : (E.sl.map (Option.map (frzV k xs)))[i]? = some (some r) := e
    rw [List.getElem?_map] at e
    cases q : E.sl[i]? with
    | none =>
      rw [q] at e
      cases e
    | some o =>
      rw [q] at e
      cases o with
      | none => cases e
      | some r0 =>
        have er : frzV k xs r0 = r := Option.some.inj (Option.some.inj e)
        obtain ⟨v, h1, h2⟩ := R.sl.2 i r0 q
        refine ⟨v, h1, ?_⟩
        cases r0 with
        | d d =>
          subst er
          exact Rp.ex gx d v h2
        | c j =>
          have er : (if j = k then Vl.d (Dt.lst xs) else Vl.c j) = r := er
          by_cases hj : j = k
          · rw [if_pos hj] at er
            subst er hj
            obtain ⟨b, h3, rfl⟩ := h2
            rw [ha] at h3
            cases h3
            exact hp
          · rw [if_neg hj] at er
            subst er
            exact h2
end
end Hk
/-! Hk2: the judgements, and the rules of expressions, tests, statements, loops. -/
namespace Hk
open PySem PySem.Spec PyProof.Rows L2 Evl

/-- what a piece does to the state: nothing where it fails -/
abbrev M (α : Type) := En → Option (α × En)
def bindM {α β : Type} (m : M α) (f : α → M β) : M β := fun E => match m E with
  | some (a, E') => f a E'
  | none => none
def retM {α : Type} (a : α) : M α := fun E => some (a, E)
def failM {α : Type} : M α := fun _ => none
theorem bindM_some {α β : Type} {m : M α} {f : α → M β} {E E2 : En} {b : β} (h : bindM m f E = some (b, E2)) : ∃ a E1, m E = some (a, E1) ∧ f a E1 = some (b, E2) := by
  unfold bindM at h
  split at h
  · rename_i a E' e
    exact ⟨a, E', e, h⟩
  · cases h
inductive Rs where
  | nx (E : En) | rt (r : Vl) (E : En) | bk (E : En) | ct (E : En)

section
variable (K : PySem.W.Frag)
def EM (te : TE) (m : M Vl) : Prop := ∀ {μ : List Addr} {Hd H : Hp} {σ : L2.St} {E : En} {r : Vl} {E' : En}, Rl K μ Hd H σ E → m E = some (r, E') → ∀ Q : VK,
  (∀ μ' Hd' H' v, Gr μ Hd μ' Hd' → Rl K μ' Hd' H' σ E' → Rv K μ' Hd' r v → Q v H') → te σ H Q
def TM (tt : TT) (m : M Bool) : Prop := ∀ {μ : List Addr} {Hd H : Hp} {σ : L2.St} {E : En} {b : Bool} {E' : En}, Rl K μ Hd H σ E → m E = some (b, E') → ∀ Q : Bool → Hp → Prop,
  (∀ μ' Hd' H', Gr μ Hd μ' Hd' → Rl K μ' Hd' H' σ E' → Q b H') → tt σ H Q
inductive RvA (μ : List Addr) (Hd : Hp) : List Vl → List V → Prop
  | nil : RvA μ Hd [] []
  | cons {r : Vl} {v : V} {rs : List Vl} {vs : List V} : Rv K μ Hd r v → RvA μ Hd rs vs → RvA μ Hd (r :: rs) (v :: vs)
def AM (ta : TA) (m : M (List Vl)) : Prop := ∀ {μ : List Addr} {Hd H : Hp} {σ : L2.St} {E : En} {rs : List Vl} {E' : En}, Rl K μ Hd H σ E → m E = some (rs, E') → ∀ Q : List V → Hp → Prop,
  (∀ μ' Hd' H' vs, Gr μ Hd μ' Hd' → Rl K μ' Hd' H' σ E' → RvA K μ' Hd' rs vs → Q vs H') → ta σ H Q
/-- an operation on values -/
def OM (r : R2) (f : Vl → Vl → M Vl) : Prop := ∀ {μ : List Addr} {Hd H : Hp} {σ : L2.St} {E : En} {x y : Vl} {vx vy : V} {z : Vl} {E' : En}, Rl K μ Hd H σ E → Rv K μ Hd x vx → Rv K μ Hd y vy → f x y E = some (z, E') → ∀ Q : VK,
  (∀ μ' Hd' H' v, Gr μ Hd μ' Hd' → Rl K μ' Hd' H' σ E' → Rv K μ' Hd' z v → Q v H') → r vx vy H Q
def UM (r : V → Hp → VK → Prop) (f : Vl → M Vl) : Prop := ∀ {μ : List Addr} {Hd H : Hp} {σ : L2.St} {E : En} {x : Vl} {vx : V} {z : Vl} {E' : En}, Rl K μ Hd H σ E → Rv K μ Hd x vx → f x E = some (z, E') → ∀ Q : VK,
  (∀ μ' Hd' H' v, Gr μ Hd μ' Hd' → Rl K μ' Hd' H' σ E' → Rv K μ' Hd' z v → Q v H') → r vx H Q
def CM (r : List V → Hp → VK → Prop) (f : List Vl → M Vl) : Prop := ∀ {μ : List Addr} {Hd H : Hp} {σ : L2.St} {E : En} {xs : List Vl} {vs : List V} {z : Vl} {E' : En}, Rl K μ Hd H σ E → RvA K μ Hd xs vs → f xs E = some (z, E') → ∀ Q : VK,
  (∀ μ' Hd' H' v, Gr μ Hd μ' Hd' → Rl K μ' Hd' H' σ E' → Rv K μ' Hd' z v → Q v H') → r vs H Q
/-- a method of a built-in type -/
def MM (T : String) (r : V → List V → Hp → VK → Prop) (f : Vl → List Vl → M Vl) : Prop := ∀ {μ : List Addr} {Hd H : Hp} {σ : L2.St} {E : En} {x : Vl} {vx : V} {xs : List Vl} {vs : List V} {z : Vl} {E' : En}, Rl K μ Hd H σ E → Rv K μ Hd x vx → RvA K μ Hd xs vs → f x xs E = some (z, E') → ∀ Q : VK,
  (∀ μ' Hd' H' v, Gr μ Hd μ' Hd' → Rl K μ' Hd' H' σ E' → Rv K μ' Hd' z v → Q v H') → r vx vs H Q
def Dn (μ : List Addr) (Hd : Hp) (D : Ends) : Rs → Prop
  | .nx E' => ∀ μ' Hd' H' σ', Gr μ Hd μ' Hd' → Rl K μ' Hd' H' σ' E' → D.nx σ' H'
  | .rt r E' => ∀ μ' Hd' H' σ' v, Gr μ Hd μ' Hd' → Rl K μ' Hd' H' σ' E' → Rv K μ' Hd' r v → D.rt v H'
  | .bk E' => ∀ μ' Hd' H' σ', Gr μ Hd μ' Hd' → Rl K μ' Hd' H' σ' E' → D.bk σ' H'
  | .ct E' => ∀ μ' Hd' H' σ', Gr μ Hd μ' Hd' → Rl K μ' Hd' H' σ' E' → D.ct σ' H'
def SM (ts : TS) (m : En → Option Rs) : Prop := ∀ {μ : List Addr} {Hd H : Hp} {σ : L2.St} {E : En} {R : Rs}, Rl K μ Hd H σ E → m E = some R → ∀ D : Ends, Dn K μ Hd D R → ts D σ H
def GM (g : TG) (f : Vl → En → Option En) : Prop := ∀ {μ : List Addr} {Hd H : Hp} {σ : L2.St} {E E' : En} {r : Vl} {v : V}, Rl K μ Hd H σ E → Rv K μ Hd r v → f r E = some E' → ∀ Q : L2.St → Hp → Prop,
  (∀ μ' Hd' H' σ', Gr μ Hd μ' Hd' → Rl K μ' Hd' H' σ' E' → Q σ' H') → g v σ H Q
end
section
variable {K : PySem.W.Frag} {μ μ' : List Addr} {Hd Hd' H : Hp}
theorem RvA.gr (g : Gr μ Hd μ' Hd') : ∀ {rs : List Vl} {vs : List V}, RvA K μ Hd rs vs → RvA K μ' Hd' rs vs
  | _, _, .nil => .nil
  | _, _, .cons h t => .cons (Rv.gr g h) (RvA.gr g t)
theorem RvA.len : ∀ {rs : List Vl} {vs : List V}, RvA K μ Hd rs vs → vs.length = rs.length
  | _, _, .nil => rfl
  | _, _, .cons h t => by rw [List.length_cons, List.length_cons, RvA.len t]
theorem Dn.gr {D : Ends} (g : Gr μ Hd μ' Hd') : ∀ {R : Rs}, Dn K μ Hd D R → Dn K μ' Hd' D R
  | .nx _, h => fun m1 h1 H1 s1 g1 => h m1 h1 H1 s1 (g.trans g1)
  | .rt _ _, h => fun m1 h1 H1 s1 v g1 => h m1 h1 H1 s1 v (g.trans g1)
  | .bk _, h => fun m1 h1 H1 s1 g1 => h m1 h1 H1 s1 (g.trans g1)
  | .ct _, h => fun m1 h1 H1 s1 g1 => h m1 h1 H1 s1 (g.trans g1)
end

/-- a piece of syntax, its reading, what it does -/
structure Ex_ (X : Cx) (e : Expr) (te : TE) (m : M Vl) : Prop where
  pe : PE X e te
  em : EM X.K te m
structure Tx (X : Cx) (e : Expr) (tt : TT) (m : M Bool) : Prop where
  pt : PT X e tt
  tm : TM X.K tt m
structure Wx (X : Cx) (e : Expr) (tt : TT) (m : M Bool) : Prop where
  pw : PW X e tt
  tm : TM X.K tt m
structure Ax (X : Cx) (es : List Expr) (ta : TA) (m : M (List Vl)) : Prop where
  pa : PA X es ta
  am : AM X.K ta m
structure Sx (X : Cx) (st : Stmt) (ts : TS) (m : En → Option Rs) : Prop where
  ps : PS X st ts
  sm : SM X.K ts m
structure Bx (X : Cx) (st : List Stmt) (ts : TS) (m : En → Option Rs) : Prop where
  ps : PSs X st ts
  sm : SM X.K ts m
structure Gx (X : Cx) (tg : Expr) (g : TG) (f : Vl → En → Option En) : Prop where
  pg : PG X tg g
  gm : GM X.K g f

section
variable {X : Cx} {a b c e : Expr} {ta tb tc te : TE} {ma mb mc m : M Vl} {pos : Pos}

/-! ### names, constants -/
def vM (i : Nat) : M Vl := fun E => match E.sl[i]? with
  | some (some r) => some (r, E)
  | _ => none
theorem em_var {K : PySem.W.Frag} (i : Nat) : EM K (tVar i) (vM i) := fun {μ Hd H σ E r E'} R h Q q => by
  unfold vM at h
  split at h
  · rename_i r0 e
    cases h
    obtain ⟨v, h1, h2⟩ := R.sl.2 i _ e
    exact ⟨v, h1, q μ Hd H v (Gr.refl μ Hd) R h2⟩
  · cases h
theorem xv (i : Nat) {x : Str} (hN : X.N[i]? = some x := by rfl) (hv : Vis X.env.scope x := by first | exact Or.inl rfl | exact Or.inr (Or.inl rfl) | exact Or.inr (Or.inr rfl)) (hd : (x == ("__debug__" : Str)) = false := by decide)
    (hcd : (x == ("__classdict__" : Str)) = false := by decide) : Ex_ X (.Name x pos) (tVar i) (vM i) := ⟨pe_var hN hv hd hcd, em_var i⟩
theorem em_c {K : PySem.W.Frag} {v : V} {d : Dt} (h : ∀ Hd, Rp K Hd d v) : EM K (tC v) (retM (.d d)) := fun {μ Hd H σ E r E'} R e Q q => by
  cases e
  exact q μ Hd H v (Gr.refl μ Hd) R (h Hd)
theorem xint {i : Int} {j : Nat} : Ex_ X (.Constant (.int i) j pos) (tC (.int i)) (retM (.d (.int i))) := ⟨pe_int, em_c (d := .int i) fun _ => (rfl : V.int i = .int i)⟩
theorem xbl {b : Bool} {j : Nat} : Ex_ X (.Constant (.bool b) j pos) (tC (.bl b)) (retM (.d (.bl b))) := ⟨pe_bl, em_c (d := .bl b) fun _ => (rfl : V.bl b = .bl b)⟩
theorem xnon {j : Nat} : Ex_ X (.Constant .none j pos) (tC .non) (retM (.d .non)) := ⟨pe_non, em_c (d := .non) fun _ => (rfl : V.non = .non)⟩
theorem xstr {x : Str} {j : Nat} : Ex_ X (.Constant (.str x) j pos) (tC (.str x)) (retM (.d (.str x))) := ⟨pe_str, em_c (d := .str x) fun _ => (rfl : V.str x = .str x)⟩

/-! ### operations -/
theorem em_op {K : PySem.W.Frag} {r : R2} {f : Vl → Vl → M Vl} (hf : OM K r f) (ha : EM K ta ma) (hb : EM K tb mb) : EM K (tOp r ta tb) (bindM ma fun x => bindM mb (f x)) := fun {μ Hd H σ E z E'} R h Q q => by
  obtain ⟨x, E1, h1, h⟩ := bindM_some h
  obtain ⟨y, E2, h2, h3⟩ := bindM_some h
  refine ha R h1 _ fun μ1 Hd1 H1 vx g1 R1 r1 => ?_
  refine hb R1 h2 _ fun μ2 Hd2 H2 vy g2 R2 r2 => ?_
  exact hf R2 (Rv.gr g2 r1) r2 h3 Q fun μ3 Hd3 H3 v g3 R3 r3 => q μ3 Hd3 H3 v ((g1.trans g2).trans g3) R3 r3
theorem xop {op : Operator} {r : R2} {f : Vl → Vl → M Vl} (ho : OpR X (binaryOp op) r) (hf : OM X.K r f) (ha : Ex_ X a ta ma) (hb : Ex_ X b tb mb) :
    Ex_ X (.BinOp a op b pos) (tOp r ta tb) (bindM ma fun x => bindM mb (f x)) := ⟨pe_op ho ha.pe hb.pe, em_op hf ha.em hb.em⟩
theorem xcmp {op : CmpOp} {r : R2} {f : Vl → Vl → M Vl} (ho : OpR X (compareOp op) r) (hf : OM X.K r f) (ha : Ex_ X a ta ma) (hb : Ex_ X b tb mb) (hm : behindInMarks op b = false) :
    Ex_ X (.Compare a [op] [b] pos) (tOp r ta tb) (bindM ma fun x => bindM mb (f x)) := ⟨pe_cmpR ho ha.pe hb.pe hm, em_op hf ha.em hb.em⟩
/-- a value that is a truth -/
def boolM : Vl → M Bool
  | .d (.bl b) => retM b
  | _ => failM
theorem boolM_some {r : Vl} {E E' : En} {k : Bool} (h : boolM r E = some (k, E')) : r = .d (.bl k) ∧ E' = E := by
  unfold boolM at h
  split at h
  · cases h
    exact ⟨rfl, rfl⟩
  · cases h
theorem tm_test {K : PySem.W.Frag} {te : TE} {m : M Vl} (h : EM K te m) : TM K (tTest te) (bindM m boolM) := fun {μ Hd H σ E b E'} R e Q q => by
  obtain ⟨r, E1, h1, h2⟩ := bindM_some e
  obtain ⟨rfl, rfl⟩ := boolM_some h2
  exact h R h1 _ fun μ1 Hd1 H1 v g1 R1 r1 => ⟨b, r1, q μ1 Hd1 H1 g1 R1⟩
theorem tm_B {K : PySem.W.Frag} {te : TE} {m : M Vl} (h : EM K te m) : TM K (tB te) (bindM m boolM) := tm_test h
theorem tcmp {op : CmpOp} {r : R2} {f : Vl → Vl → M Vl} (ho : OpR X (compareOp op) r) (hf : OM X.K r f) (ha : Ex_ X a ta ma) (hb : Ex_ X b tb mb) (hm : behindInMarks op b = false) :
    Tx X (.Compare a [op] [b] pos) (tTest (tOp r ta tb)) (bindM (bindM ma fun x => bindM mb (f x)) boolM) := ⟨pt_cmpR ho ha.pe hb.pe hm, tm_test (em_op hf ha.em hb.em)⟩
theorem tval (ha : Ex_ X a ta ma) (he : ∀ whole, isTrue a X.env whole = (do let v ← whole; standAt a.pos; holding [v] (truthy v)) := by intro _; rfl) : Tx X a (tB ta) (bindM ma boolM) := ⟨pt_val ha.pe he, tm_B ha.em⟩
/-- a value's truth -/
def truD : Dt → Option Bool
  | .non => some false
  | .bl b => some b
  | .int i => some (i != 0)
  | .str s => if s.length ≤ sizeLine then some ((s.length : Int) != 0) else none
  | .lst xs => some (!xs.isEmpty)
  | .tup xs => some (!xs.isEmpty)
  | _ => none
def truM (r : Vl) : M Bool := fun E => match see E.ce r with
  | some d => (truD d).map fun b => (b, E)
  | none => none
theorem RpA.emp {K : PySem.W.Frag} {H : Hp} {ds : List Dt} {vs : List V} (h : RpA K H ds vs) : vs.isEmpty = ds.isEmpty := by
  have e := h.len
  cases ds <;> cases vs <;> first | rfl | (simp at e)
theorem tru_of {K : PySem.W.Frag} {H : Hp} {d : Dt} {v : V} {b : Bool} (hr : Rp K H d v) (h : truD d = some b) : TruV K v H b := by
  unfold truD at h
  split at h
  · cases h
    cases (show v = .non from hr)
    exact (rfl : false = false)
  · cases h
    cases (show v = .bl _ from hr)
    exact (rfl : b = b)
  · cases h
    cases (show v = .int _ from hr)
    exact (rfl : _ = _)
  · cases (show v = .str _ from hr)
    split at h
    · rename_i hz
      cases h
      exact ⟨hz, rfl⟩
    · cases h
  · cases h
    obtain ⟨a, xs, rfl, h2, h3⟩ := hr
    exact .inl ⟨xs, sq_of h2, by rw [h3.emp]⟩
  · cases h
    obtain ⟨a, xs, rfl, h2, h3⟩ := hr
    exact .inr (.inl ⟨xs, h2, by rw [h3.emp]⟩)
  · cases h
theorem ttru (ha : Ex_ X a ta ma) (he : ∀ whole, isTrue a X.env whole = (do let v ← whole; standAt a.pos; holding [v] (truthy v)) := by intro _; rfl) :
    Tx X a (fun σ H Q => ta σ H fun x H' => ∃ k, TruV X.K x H' k ∧ Q k H') (bindM ma truM) := ⟨pt_truth ha.pe he, fun {μ Hd H σ E b E'} R e Q q => by
  obtain ⟨r, E1, h1, h2⟩ := bindM_some e
  unfold truM at h2
  split at h2
  · rename_i d hd
    cases ht : truD d with
    | none =>
      rw [ht] at h2
      cases h2
    | some k =>
      rw [ht] at h2
      cases h2
      exact ha.em R h1 _ fun μ1 Hd1 H1 v g1 R1 r1 => ⟨b, tru_of (see_ok R1.wo r1 hd) ht, q μ1 Hd1 H1 g1 R1⟩
  · cases h2⟩
/-! ### and, or, not, a chain, a choice -/
variable {tt uu : TT} {mt mu : M Bool} {rest : List Expr}
def andM (m n : M Bool) : M Bool := bindM m fun b => if b = true then n else retM false
def orM (m n : M Bool) : M Bool := bindM m fun b => if b = true then retM true else n
def notM (m : M Bool) : M Bool := bindM m fun b => retM (!b)
theorem tm_and {K : PySem.W.Frag} (h1 : TM K tt mt) (h2 : TM K uu mu) : TM K (tAnd tt uu) (andM mt mu) := fun {μ Hd H σ E b E'} R e Q q => by
  obtain ⟨k, E1, e1, e2⟩ := bindM_some e
  refine h1 R e1 _ fun μ1 Hd1 H1 g1 R1 => ?_
  cases k with
  | true => exact h2 R1 e2 Q fun μ2 Hd2 H2 g2 R2 => q μ2 Hd2 H2 (g1.trans g2) R2
  | false =>
    cases e2
    exact q μ1 Hd1 H1 g1 R1
theorem tm_or {K : PySem.W.Frag} (h1 : TM K tt mt) (h2 : TM K uu mu) : TM K (tOr tt uu) (orM mt mu) := fun {μ Hd H σ E b E'} R e Q q => by
  obtain ⟨k, E1, e1, e2⟩ := bindM_some e
  refine h1 R e1 _ fun μ1 Hd1 H1 g1 R1 => ?_
  cases k with
  | false => exact h2 R1 e2 Q fun μ2 Hd2 H2 g2 R2 => q μ2 Hd2 H2 (g1.trans g2) R2
  | true =>
    cases e2
    exact q μ1 Hd1 H1 g1 R1
theorem tm_not {K : PySem.W.Frag} (h1 : TM K tt mt) : TM K (tNot tt) (notM mt) := fun {μ Hd H σ E b E'} R e Q q => by
  obtain ⟨k, E1, e1, e2⟩ := bindM_some e
  cases e2
  exact h1 R e1 _ fun μ1 Hd1 H1 g1 R1 => q μ1 Hd1 H1 g1 R1
theorem wand1 (h : Tx X a tt mt) : Wx X (.BoolOp .And [a] pos) tt mt := ⟨pw_and1 h.pt, h.tm⟩
theorem wor1 (h : Tx X a tt mt) : Wx X (.BoolOp .Or [a] pos) tt mt := ⟨pw_or1 h.pt, h.tm⟩
theorem wand (h : Tx X a tt mt) (hr : Wx X (.BoolOp .And (b :: rest) pos) uu mu) : Wx X (.BoolOp .And (a :: b :: rest) pos) (tAnd tt uu) (andM mt mu) := ⟨pw_and h.pt hr.pw, tm_and h.tm hr.tm⟩
theorem wor (h : Tx X a tt mt) (hr : Wx X (.BoolOp .Or (b :: rest) pos) uu mu) : Wx X (.BoolOp .Or (a :: b :: rest) pos) (tOr tt uu) (orM mt mu) := ⟨pw_or h.pt hr.pw, tm_or h.tm hr.tm⟩
theorem tbool (h : Wx X e tt mt) : Tx X e tt mt := ⟨h.pw.pt, h.tm⟩
theorem tnot (h : Tx X a tt mt) : Tx X (.UnaryOp .Not a pos) (tNot tt) (notM mt) := ⟨pt_not h.pt, tm_not h.tm⟩
/-- as values that are truths -/
def blM (b : Bool) : M Vl := retM (.d (.bl b))
def andV (m n : M Vl) : M Vl := bindM (bindM m boolM) fun b => if b = true then n else blM false
def orV (m n : M Vl) : M Vl := bindM (bindM m boolM) fun b => if b = true then blM true else n
def notV (m : M Vl) : M Vl := bindM (bindM m boolM) fun b => blM (!b)
theorem em_bool {K : PySem.W.Frag} {te : TE} {m : M Vl} (h : EM K te m) {μ : List Addr} {Hd H : Hp} {σ : L2.St} {E E' : En} {k : Bool} (R : Rl K μ Hd H σ E) (e : bindM m boolM E = some (k, E')) {Q : VK}
    (q : ∀ μ' Hd' H', Gr μ Hd μ' Hd' → Rl K μ' Hd' H' σ E' → Q (.bl k) H') : te σ H Q := by
  obtain ⟨r, E1, e1, e2⟩ := bindM_some e
  obtain ⟨rfl, rfl⟩ := boolM_some e2
  exact h R e1 _ fun μ1 Hd1 H1 v g1 R1 r1 => by
    cases (show v = .bl k from r1)
    exact q μ1 Hd1 H1 g1 R1
theorem xand (ha : Ex_ X a ta ma) (hb : Ex_ X (.BoolOp .And (b :: rest) pos) tb mb) : Ex_ X (.BoolOp .And (a :: b :: rest) pos) (tAndV ta tb) (andV ma mb) := ⟨pe_and ha.pe hb.pe, fun {μ Hd H σ E r E'} R e Q q => by
  obtain ⟨k, E1, e1, e2⟩ := bindM_some e
  refine em_bool ha.em R e1 fun μ1 Hd1 H1 g1 R1 => ⟨k, rfl, ?_⟩
  cases k with
  | true => exact hb.em R1 e2 Q fun μ2 Hd2 H2 v g2 R2 => q μ2 Hd2 H2 v (g1.trans g2) R2
  | false =>
    cases e2
    exact q μ1 Hd1 H1 _ g1 R1 rfl⟩
theorem xor_ (ha : Ex_ X a ta ma) (hb : Ex_ X (.BoolOp .Or (b :: rest) pos) tb mb) : Ex_ X (.BoolOp .Or (a :: b :: rest) pos) (tOrV ta tb) (orV ma mb) := ⟨pe_or ha.pe hb.pe, fun {μ Hd H σ E r E'} R e Q q => by
  obtain ⟨k, E1, e1, e2⟩ := bindM_some e
  refine em_bool ha.em R e1 fun μ1 Hd1 H1 g1 R1 => ⟨k, rfl, ?_⟩
  cases k with
  | false => exact hb.em R1 e2 Q fun μ2 Hd2 H2 v g2 R2 => q μ2 Hd2 H2 v (g1.trans g2) R2
  | true =>
    cases e2
    exact q μ1 Hd1 H1 _ g1 R1 rfl⟩
theorem xone {op : BoolOp} (ha : Ex_ X a ta ma) : Ex_ X (.BoolOp op [a] pos) ta ma := ⟨pe_one ha.pe, ha.em⟩
theorem xnot (ha : Ex_ X a ta ma) : Ex_ X (.UnaryOp .Not a pos) (tNotV ta) (notV ma) := ⟨pe_not ha.pe, fun {μ Hd H σ E r E'} R e Q q => by
  obtain ⟨k, E1, e1, e2⟩ := bindM_some e
  cases e2
  exact em_bool ha.em R e1 fun μ1 Hd1 H1 g1 R1 => ⟨k, rfl, q μ1 Hd1 H1 _ g1 R1 rfl⟩⟩
def ifM {α : Type} (t : M Bool) (m n : M α) : M α := bindM t fun b => if b = true then m else n
theorem xif (hc : Tx X c tt mt) (ha : Ex_ X a ta ma) (hb : Ex_ X b tb mb) : Ex_ X (.IfExp c a b pos) (tIf tt ta tb) (ifM mt ma mb) := ⟨pe_ifExp hc.pt ha.pe hb.pe, fun {μ Hd H σ E r E'} R e Q q => by
  obtain ⟨k, E1, e1, e2⟩ := bindM_some e
  refine hc.tm R e1 _ fun μ1 Hd1 H1 g1 R1 => ?_
  cases k with
  | true => exact ha.em R1 e2 Q fun μ2 Hd2 H2 v g2 R2 => q μ2 Hd2 H2 v (g1.trans g2) R2
  | false => exact hb.em R1 e2 Q fun μ2 Hd2 H2 v g2 R2 => q μ2 Hd2 H2 v (g1.trans g2) R2⟩
def chainV (f g : Vl → Vl → M Vl) (ma mb mc : M Vl) : M Vl := bindM ma fun x => bindM mb fun y => bindM (bindM (f x y) boolM) fun k => if k = true then bindM mc (g y) else blM false
theorem em_chain {K : PySem.W.Frag} {r r' : R2} {f g : Vl → Vl → M Vl} (hf : OM K r f) (hg : OM K r' g) (hgb : ∀ x y E z E', g x y E = some (z, E') → ∃ k, z = .d (.bl k)) (ha : EM K ta ma) (hb : EM K tb mb) (hc : EM K tc mc) : EM K (tChain r r' ta tb tc) (chainV f g ma mb mc) := fun {μ Hd H σ E z E'} R e Q q => by
  obtain ⟨x, E1, e1, e⟩ := bindM_some e
  obtain ⟨y, E2, e2, e⟩ := bindM_some e
  obtain ⟨k, E3, e3, e⟩ := bindM_some e
  obtain ⟨w, E4, e4, e5⟩ := bindM_some e3
  obtain ⟨rfl, rfl⟩ := boolM_some e5
  refine ha R e1 _ fun μ1 Hd1 H1 vx g1 R1 r1 => ?_
  refine hb R1 e2 _ fun μ2 Hd2 H2 vy g2 R2 r2 => ?_
  refine hf R2 (Rv.gr g2 r1) r2 e4 _ fun μ3 Hd3 H3 vz g3 R3 r3 => ?_
  refine ⟨k, r3, ?_⟩
  cases k with
  | true =>
    obtain ⟨u, E5, e6, e7⟩ := bindM_some e
    show tc σ H3 _
    refine hc R3 e6 _ fun μ4 Hd4 H4 vu g4 R4 r4 => ?_
    exact hg R4 (Rv.gr g4 (Rv.gr g3 r2)) r4 e7 _ fun μ5 Hd5 H5 v g5 R5 r5 => q μ5 Hd5 H5 v ((((g1.trans g2).trans g3).trans g4).trans g5) R5 r5
  | false =>
    cases e
    exact q μ3 Hd3 H3 _ ((g1.trans g2).trans g3) R3 rfl
theorem tchain {op op' : CmpOp} {r r' : R2} {f g : Vl → Vl → M Vl} (ho : OpR X (compareOp op) r) (ho' : OpR X (compareOp op') r') (hf : OM X.K r f) (hg : OM X.K r' g) (hgb : ∀ x y E z E', g x y E = some (z, E') → ∃ k, z = .d (.bl k)) (ha : Ex_ X a ta ma) (hb : Ex_ X b tb mb) (hc : Ex_ X c tc mc)
    (hm : lastMarks [op, op'] [b, c] = false := by with_unfolding_all rfl) : Tx X (.Compare a [op, op'] [b, c] pos) (tTest (tChain r r' ta tb tc)) (bindM (chainV f g ma mb mc) boolM) := ⟨pt_chain ho ho' ha.pe hb.pe hc.pe hm, tm_test (em_chain hf hg hgb ha.em hb.em hc.em)⟩

/-! ### argument lists, displays -/
variable {es : List Expr} {tes : TA} {mes : M (List Vl)}
def consM (m : M Vl) (ms : M (List Vl)) : M (List Vl) := bindM m fun x => bindM ms fun xs => retM (x :: xs)
theorem anil : Ax X [] tNil (retM []) := ⟨pa_nil, fun {μ Hd H σ E r E'} R e Q q => by
  cases e
  exact q μ Hd H [] (Gr.refl μ Hd) R .nil⟩
theorem acons (ha : Ex_ X e te m) (hr : Ax X es tes mes) (hs : starEach (e :: es) X.env = (false, eval e X.env) :: starEach es X.env := by rfl) : Ax X (e :: es) (tCons te tes) (consM m mes) := ⟨pa_cons ha.pe hr.pa hs, fun {μ Hd H σ E r E'} R e Q q => by
  obtain ⟨x, E1, e1, e⟩ := bindM_some e
  obtain ⟨xs, E2, e2, e⟩ := bindM_some e
  cases e
  refine ha.em R e1 _ fun μ1 Hd1 H1 v g1 R1 r1 => ?_
  exact hr.am R1 e2 _ fun μ2 Hd2 H2 vs g2 R2 r2 => q μ2 Hd2 H2 _ (g1.trans g2) R2 (.cons (Rv.gr g2 r1) r2)⟩
/-- a value as data: a cell's list is data from now on -/
def fzM : Vl → M Dt
  | .d d => retM d
  | .c k => fun E => match E.ce[k]? with
    | some (.lst xs) => some (.lst xs, frz k xs E)
    | _ => none
def fzA : List Vl → M (List Dt)
  | [] => retM []
  | r :: rs => bindM (fzM r) fun d => bindM (fzA rs) fun ds => retM (d :: ds)
theorem fzM_ok {K : PySem.W.Frag} {μ : List Addr} {Hd H : Hp} {σ : L2.St} {E E' : En} {r : Vl} {v : V} {d : Dt} (R : Rl K μ Hd H σ E) (hv : Rv K μ Hd r v) (h : fzM r E = some (d, E')) : ∃ Hd', Gr μ Hd μ Hd' ∧ Rl K μ Hd' H σ E' ∧ Rp K Hd' d v := by
  cases r with
  | d d' =>
    cases h
    exact ⟨Hd, Gr.refl μ Hd, R, hv⟩
  | c k =>
    unfold fzM at h
    have h : (match E.ce[k]? with
    | some (.lst xs) => some (Dt.lst xs, frz k xs E)
    | _ => none) = some (d, E') := h
    split at h
    · rename_i xs e
      cases h
      obtain ⟨a, h1, rfl⟩ := hv
      exact R.frz e h1
    · cases h
theorem fzA_ok {K : PySem.W.Frag} {μ : List Addr} {H : Hp} {σ : L2.St} : ∀ {rs : List Vl} {vs : List V} {ds : List Dt} {Hd : Hp} {E E' : En}, Rl K μ Hd H σ E → RvA K μ Hd rs vs → fzA rs E = some (ds, E') → ∃ Hd', Gr μ Hd μ Hd' ∧ Rl K μ Hd' H σ E' ∧ RpA K Hd' ds vs
  | [], _, _, Hd, E, E', R, .nil, h => by
    cases h
    exact ⟨Hd, Gr.refl μ Hd, R, rfl⟩
  | r :: rs, _, _, Hd, E, E', R, .cons h1 h2, h => by
    obtain ⟨d, E1, e1, h⟩ := bindM_some h
    obtain ⟨ds, E2, e2, h⟩ := bindM_some h
    cases h
    obtain ⟨H1, g1, R1, p1⟩ := fzM_ok R h1 e1
    obtain ⟨H2, g2, R2, p2⟩ := fzA_ok R1 (RvA.gr g1 h2) e2
    exact ⟨H2, g1.trans g2, R2, _, _, rfl, Rp.ex g2.ex _ _ p1, p2⟩
/-- a new list, a new tuple -/
def newL (xs : List Dt) : M Vl := fun E => some (.c E.ce.length, ⟨E.sl, E.ce ++ [.lst xs]⟩)
def tupM (m : M (List Vl)) : M Vl := bindM m fun rs => if rs.length ≤ 100000 then bindM (fzA rs) fun ds => retM (.d (.tup ds)) else failM
def lstM (m : M (List Vl)) : M Vl := bindM m fun rs => if rs.length ≤ 100000 then bindM (fzA rs) newL else failM
theorem newL_ok {K : PySem.W.Frag} {μ : List Addr} {Hd H : Hp} {σ : L2.St} {E E' : En} {xs : List Dt} {vs : List V} {z : Vl} {p : Addr} (R : Rl K μ Hd H σ E) (h : RpA K Hd xs vs) (e : newL xs E = some (z, E')) (hp : H p = none) :
    Gr μ Hd (μ ++ [p]) Hd ∧ Rl K (μ ++ [p]) Hd (upd H p (.lst vs)) σ E' ∧ Rv K (μ ++ [p]) Hd z (.ref p) := by
  cases e
  exact R.newC hp h
theorem tup_ok {K : PySem.W.Frag} {μ : List Addr} {Hd H : Hp} {σ : L2.St} {E : En} {ds : List Dt} {vs : List V} {p : Addr} (R : Rl K μ Hd H σ E) (h : RpA K Hd ds vs) (hp : H p = none) :
    Gr μ Hd μ (upd Hd p (.tup vs)) ∧ Rl K μ (upd Hd p (.tup vs)) (upd H p (.tup vs)) σ E ∧ Rp K (upd Hd p (.tup vs)) (.tup ds) (.ref p) := by
  obtain ⟨g, R'⟩ := R.newD (o := .tup vs) hp
  exact ⟨g, R', p, vs, rfl, st_of upd_same, RpA.ex g.ex _ _ h⟩
theorem xtup {k : _} (h : Ax X es tes mes) : Ex_ X (.Tuple es k pos) (tTup tes) (tupM mes) := ⟨pe_tup h.pa, fun {μ Hd H σ E r E'} R e Q q => by
  obtain ⟨rs, E1, e1, e⟩ := bindM_some e
  split at e
  · rename_i hz
    obtain ⟨ds, E2, e2, e⟩ := bindM_some e
    cases e
    refine h.am R e1 _ fun μ1 Hd1 H1 vs g1 R1 r1 => ?_
    obtain ⟨Hd2, g2, R2, r2⟩ := fzA_ok R1 r1 e2
    refine ⟨by rw [r1.len]; exact sz_of hz, fun p hp => ?_⟩
    obtain ⟨g3, R3, r3⟩ := tup_ok R2 r2 hp
    exact q _ _ _ _ ((g1.trans g2).trans g3) R3 r3
  · cases e⟩
theorem xlst (h : Ax X es tes mes) : Ex_ X (.List es pos) (tLst tes) (lstM mes) := ⟨pe_lst h.pa, fun {μ Hd H σ E r E'} R e Q q => by
  obtain ⟨rs, E1, e1, e⟩ := bindM_some e
  split at e
  · rename_i hz
    obtain ⟨ds, E2, e2, e⟩ := bindM_some e
    refine h.am R e1 _ fun μ1 Hd1 H1 vs g1 R1 r1 => ?_
    obtain ⟨Hd2, g2, R2, r2⟩ := fzA_ok R1 r1 e2
    refine ⟨by rw [r1.len]; exact sz_of hz, fun p hp => ?_⟩
    obtain ⟨g3, R3, r3⟩ := newL_ok R2 r2 e hp
    exact q _ _ _ _ ((g1.trans g2).trans g3) R3 r3
  · cases e⟩
end
end Hk
/-! Hk3: statements, loops, a def's promise and its call. -/
namespace Hk
open PySem PySem.Spec PyProof.Rows L2 Evl

section
variable {X : Cx} {a b c e tg iter : Expr} {ta tb tc te : TE} {ma mb mc m : M Vl} {pos : Pos} {tt : TT} {mt : M Bool} {st : Stmt} {sts rest : List Stmt} {ts tu : TS} {ms mu : En → Option Rs} {es : List Expr} {tes : TA} {mes : M (List Vl)}

/-! ### blocks -/
def nilS : En → Option Rs := fun E => some (.nx E)
def seqS (m n : En → Option Rs) : En → Option Rs := fun E => match m E with
  | some (.nx E1) => n E1
  | o => o
theorem sm_seq {K : PySem.W.Frag} (h1 : SM K ts ms) (h2 : SM K tu mu) : SM K (tSeq ts tu) (seqS ms mu) := fun {μ Hd H σ E R} r e D d => by
  unfold seqS at e
  cases q : ms E with
  | none =>
    rw [q] at e
    cases e
  | some Q =>
    rw [q] at e
    refine h1 r q _ ?_
    cases Q with
    | nx E1 => exact fun μ1 Hd1 H1 σ1 g1 R1 => h2 R1 e D (Dn.gr g1 d)
    | rt v E1 =>
      cases e
      exact d
    | bk E1 =>
      cases e
      exact d
    | ct E1 =>
      cases e
      exact d
theorem sm_next {K : PySem.W.Frag} : SM K tNext nilS := fun {μ Hd H σ E R} r e D d => by
  cases e
  exact d μ Hd H σ (Gr.refl μ Hd) r
theorem bnil : Bx X [] tNext nilS := ⟨pss_nil, sm_next⟩
theorem bone (h : Sx X st ts ms) : Bx X [st] ts ms := ⟨pss_one h.ps, h.sm⟩
theorem bcons (h : Sx X st ts ms) (hr : Bx X rest tu mu) : Bx X (st :: rest) (tSeq ts tu) (seqS ms mu) := ⟨pss_cons h.ps hr.ps, sm_seq h.sm hr.sm⟩
/-! ### simple statements -/
def setE (i : Nat) (r : Vl) (E : En) : En := ⟨E.sl.set i (some r), E.ce⟩
theorem Rl.setE {K : PySem.W.Frag} {μ : List Addr} {Hd H : Hp} {σ : L2.St} {E : En} {r : Vl} {v : V} (R : Rl K μ Hd H σ E) (i : Nat) (h : Rv K μ Hd r v) : Rl K μ Hd H (σ.set i (some v)) (setE i r E) := ⟨R.wo, R.sl.set i h⟩
def setS (i : Nat) (m : M Vl) : En → Option Rs := fun E => match m E with
  | some (r, E1) => some (.nx (setE i r E1))
  | none => none
theorem sm_set {K : PySem.W.Frag} {te : TE} {m : M Vl} (i : Nat) (h : EM K te m) : SM K (tAsg te (gName i)) (setS i m) := fun {μ Hd H σ E R} r e D d => by
  unfold setS at e
  cases q : m E with
  | none =>
    rw [q] at e
    cases e
  | some p =>
    obtain ⟨v, E1⟩ := p
    rw [q] at e
    cases e
    exact h r q _ fun μ1 Hd1 H1 x g1 R1 r1 => d μ1 Hd1 H1 _ g1 (R1.setE i r1)
theorem sset (i : Nat) {x : Str} {pos' : Pos} (h : Ex_ X e te m) (hN : X.N.Nodup) (hi : X.N[i]? = some x := by rfl) (hx : Loc X.env.scope x := by first | exact Or.inl rfl | exact Or.inr rfl) (hs : swapsWith e (some (.Name x pos')) pos.line X.env = pure false := by rfl)
    (hf : X.fn x = true ∨ X.env.scope.names.lookup x = some .local := by first | exact .inl rfl | exact .inr rfl) : Sx X (.Assign [.Name x pos'] e pos) (tAsg te (gName i)) (setS i m) := ⟨ps_set hN hi hx h.pe hs hf, sm_set i h.em⟩
/-- a, b = x, y: two names -/
def set2S (i j : Nat) (m : M (List Vl)) : En → Option Rs := fun E => match m E with
  | some ([x, y], E1) => some (.nx (setE j y (setE i x E1)))
  | _ => none
theorem sset2 {i j : Nat} {x y : Str} {px py pt : Pos} {kt k2 pt2} (h : Ax X [a, b] tes mes) (hc : X.calm = true) (hN : X.N.Nodup) (hi : X.N[i]? = some x) (hj : X.N[j]? = some y) (hij : i ≠ j)
    (hx : X.env.scope.names.lookup x = some .local) (hy : X.env.scope.names.lookup y = some .local)
    (hw : swappedStores [.Tuple [.Name x px, .Name y py] kt pt] (.Tuple [a, b] k2 pt2) X.env = pure (some [x, y]))
    (hs : swapsWithSole [.Tuple [.Name x px, .Name y py] kt pt] (.Tuple [a, b] k2 pt2) pos.line X.env = pure false := by rfl) :
    Sx X (.Assign [.Tuple [.Name x px, .Name y py] kt pt] (.Tuple [a, b] k2 pt2) pos) (tPar i j tes) (set2S i j mes) := ⟨ps_par hc hN hi hj hij hx hy h.pa hw hs, fun {μ Hd H σ E R} r e D d => by
  unfold set2S at e
  split at e
  · rename_i x y E1 q
    cases e
    refine h.am r q _ fun μ1 Hd1 H1 vs g1 R1 r1 => ?_
    cases r1 with
    | cons p1 t =>
      cases t with
      | cons p2 t2 =>
        cases t2
        exact ⟨_, _, rfl, d μ1 Hd1 H1 _ g1 ((R1.setE i p1).setE j p2)⟩
  · cases e⟩
def dropS (m : M Vl) : En → Option Rs := fun E => match m E with
  | some (_, E1) => some (.nx E1)
  | none => none
theorem sexpr (h : Ex_ X e te m) (hs : swapsWith e none pos.line X.env = pure false := by rfl) : Sx X (.Expr e pos) (tDrop te) (dropS m) := ⟨ps_expr h.pe hs, fun {μ Hd H σ E R} r q D d => by
  unfold dropS at q
  cases q1 : m E with
  | none =>
    rw [q1] at q
    cases q
  | some p =>
    obtain ⟨v, E1⟩ := p
    rw [q1] at q
    cases q
    exact h.em r q1 _ fun μ1 Hd1 H1 x g1 R1 r1 => d μ1 Hd1 H1 _ g1 R1⟩
def retS (m : M Vl) : En → Option Rs := fun E => match m E with
  | some (r, E1) => some (.rt r E1)
  | none => none
theorem sret (h : Ex_ X e te m) : Sx X (.Return (some e) pos) (tRet te) (retS m) := ⟨ps_ret h.pe, fun {μ Hd H σ E R} r q D d => by
  unfold retS at q
  cases q1 : m E with
  | none =>
    rw [q1] at q
    cases q
  | some p =>
    obtain ⟨v, E1⟩ := p
    rw [q1] at q
    cases q
    exact h.em r q1 _ fun μ1 Hd1 H1 x g1 R1 r1 => d μ1 Hd1 H1 _ x g1 R1 r1⟩
theorem sretN : Sx X (.Return none pos) tRetN (fun E => some (.rt (.d .non) E)) := ⟨ps_retN, fun {μ Hd H σ E R} r q D d => by
  cases q
  exact d μ Hd H σ .non (Gr.refl μ Hd) r rfl⟩
def ifS (t : M Bool) (m n : En → Option Rs) : En → Option Rs := fun E => match t E with
  | some (b, E1) => if b = true then m E1 else n E1
  | none => none
theorem sif (hc : Tx X c tt mt) (ha : Bx X sts ts ms) (hb : Bx X rest tu mu) : Sx X (.If c sts rest pos) (tIfS tt ts tu) (ifS mt ms mu) := ⟨ps_if hc.pt ha.ps hb.ps, fun {μ Hd H σ E R} r q D d => by
  unfold ifS at q
  cases q1 : mt E with
  | none =>
    rw [q1] at q
    cases q
  | some p =>
    obtain ⟨k, E1⟩ := p
    rw [q1] at q
    refine hc.tm r q1 _ fun μ1 Hd1 H1 g1 R1 => ?_
    cases k with
    | true => exact ha.sm R1 q D (Dn.gr g1 d)
    | false => exact hb.sm R1 q D (Dn.gr g1 d)⟩
/-- what is never reached -/
theorem bnever : Bx X sts tNever (fun _ => none) := ⟨pss_never, fun {μ Hd H σ E R} r q D d => by cases q⟩
theorem sbreak : Sx X (.Break pos) tBreak (fun E => some (.bk E)) := ⟨ps_break, fun {μ Hd H σ E R} r q D d => by
  cases q
  exact d μ Hd H σ (Gr.refl μ Hd) r⟩
theorem scont : Sx X (.Continue pos) tCont (fun E => some (.ct E)) := ⟨ps_continue, fun {μ Hd H σ E R} r q D d => by
  cases q
  exact d μ Hd H σ (Gr.refl μ Hd) r⟩
/-- x op= e, two ints -/
def augS (i : Nat) (f : Int → Int → Int) (m : M Vl) : En → Option Rs := fun E => match E.sl[i]?, m E with
  | some (some (.d (.int x))), some (.d (.int y), E1) => some (.nx (setE i (.d (.int (f x y))) E1))
  | _, _ => none
theorem saug (i : Nat) {x : Str} {op : Operator} {f : Int → Int → Int} {pos' : Pos} (ho : PIp X op (ipI f)) (h : Ex_ X e te m) (hN : X.N.Nodup) (hi : X.N[i]? = some x := by rfl) (hx : Loc X.env.scope x := by first | exact Or.inl rfl | exact Or.inr rfl)
    (hf : X.fn x = true ∨ X.env.scope.names.lookup x = some .local := by first | exact .inl rfl | exact .inr rfl) : Sx X (.AugAssign (.Name x pos') op e pos) (tAug i te (ipI f)) (augS i f m) := ⟨ps_aug hN hi hx h.pe ho hf, fun {μ Hd H σ E R} r q D d => by
  unfold augS at q
  split at q
  · rename_i x y E1 e1 e2
    cases q
    obtain ⟨v, h1, h2⟩ := r.sl.2 i _ e1
    cases (show v = .int x from h2)
    exact ⟨.int x, h1, h.em r e2 _ fun μ1 Hd1 H1 w g1 R1 r1 => by
      cases (show w = .int y from r1)
      exact ⟨x, y, rfl, rfl, d μ1 Hd1 H1 _ g1 (R1.setE i (rfl : V.int (f x y) = .int (f x y)))⟩⟩
  · cases q⟩

/-! ### loops -/
def whileS (t : M Bool) (m : En → Option Rs) : Nat → En → Option Rs
  | 0, _ => none
  | n + 1, E => match t E with
    | some (true, E1) => match m E1 with
      | some (.nx E2) => whileS t m n E2
      | some (.ct E2) => whileS t m n E2
      | some (.bk E2) => some (.nx E2)
      | some (.rt r E2) => some (.rt r E2)
      | none => none
    | some (false, E1) => some (.nx E1)
    | none => none
theorem sm_while {K : PySem.W.Frag} (n : Nat) (hc : TM K tt mt) (hb : SM K ts ms) : SM K (tWhile tt ts) (whileS mt ms n) := fun {μ Hd H σ E R} r q D d => by
  refine ⟨fun k σ' H' => ∃ μ' Hd' E', Gr μ Hd μ' Hd' ∧ Rl K μ' Hd' H' σ' E' ∧ whileS mt ms k E' = some R, ⟨n, μ, Hd, E, Gr.refl μ Hd, r, q⟩, fun k σ' H' hw => ?_⟩
  obtain ⟨μ', Hd', E', g, r', q'⟩ := hw
  cases k with
  | zero => cases q'
  | succ k =>
    unfold whileS at q'
    cases q1 : mt E' with
    | none =>
      rw [q1] at q'
      cases q'
    | some p =>
      obtain ⟨b, E1⟩ := p
      rw [q1] at q'
      refine hc r' q1 _ fun μ1 Hd1 H1 g1 R1 => ?_
      cases b with
      | false =>
        cases q'
        exact d μ1 Hd1 H1 σ' (g.trans g1) R1
      | true =>
        refine ⟨fun σ2 H2 => ∃ m', m' < k + 1 ∧ ∃ μ2 Hd2 E2, Gr μ Hd μ2 Hd2 ∧ Rl K μ2 Hd2 H2 σ2 E2 ∧ whileS mt ms m' E2 = some R, fun _ _ h => h, ?_⟩
        have q' : (match ms E1 with
          | some (.nx E2) => whileS mt ms k E2
          | some (.ct E2) => whileS mt ms k E2
          | some (.bk E2) => some (.nx E2)
          | some (.rt r E2) => some (.rt r E2)
          | none => none) = some R := q'
        cases q2 : ms E1 with
        | none =>
          rw [q2] at q'
          cases q'
        | some Q =>
          rw [q2] at q'
          refine hb R1 q2 _ ?_
          cases Q with
          | nx E2 => exact fun μ2 Hd2 H2 σ2 g2 R2 => ⟨k, Nat.lt_succ_self k, μ2, Hd2, E2, (g.trans g1).trans g2, R2, q'⟩
          | ct E2 => exact fun μ2 Hd2 H2 σ2 g2 R2 => ⟨k, Nat.lt_succ_self k, μ2, Hd2, E2, (g.trans g1).trans g2, R2, q'⟩
          | bk E2 =>
            cases q'
            exact fun μ2 Hd2 H2 σ2 g2 R2 => d μ2 Hd2 H2 σ2 ((g.trans g1).trans g2) R2
          | rt v E2 =>
            cases q'
            exact fun μ2 Hd2 H2 σ2 w g2 R2 r2 => d μ2 Hd2 H2 σ2 w ((g.trans g1).trans g2) R2 r2
theorem swhile (n : Nat) (hp : PassesOwn (model X.prog X.w) X.A X.env X.xe) (hc : Tx X c tt mt) (hb : Bx X sts ts ms) : Sx X (.While c sts [] pos) (tWhile tt ts) (whileS mt ms n) := ⟨ps_while hp hc.pt hb.ps, sm_while n hc.tm hb.sm⟩

/-- an iterator that serves data -/
def Serves (J : It) (K : PySem.W.Frag) (Hd0 : Hp) (ds : List Dt) : Prop := ∀ (Hd H : Hp) (i : Nat), Ex Hd0 Hd → Ex Hd H → (ds.length ≤ i → J.stop i H) ∧ ∀ d, ds[i]? = some d → J.go i H ∧ ∀ x H', J.yld i H x H' →
  ∃ Hd', ((H' = H ∧ Hd' = Hd) ∨ ∃ p o, H p = none ∧ H' = upd H p o ∧ Hd' = upd Hd p o) ∧ Rp K Hd' d x
def IM (K : PySem.W.Frag) (wi : TI) (m : M (List Dt)) : Prop := ∀ {μ : List Addr} {Hd H : Hp} {σ : L2.St} {E : En} {ds : List Dt} {E' : En}, Rl K μ Hd H σ E → m E = some (ds, E') → ∀ Q : It → Hp → Prop,
  (∀ μ' Hd' H' J, Gr μ Hd μ' Hd' → Rl K μ' Hd' H' σ E' → Serves J K Hd' ds → Q J H') → wi σ H Q
structure Ix_ (X : Cx) (tg iter : Expr) (wi : TI) (m : M (List Dt)) : Prop where
  pi : PI X tg iter wi
  im : IM X.K wi m
def forL (g : Vl → En → Option En) (m : En → Option Rs) : List Dt → En → Option Rs
  | [], E => some (.nx E)
  | d :: ds, E => match g (.d d) E with
    | some E1 => match m E1 with
      | some (.nx E2) => forL g m ds E2
      | some (.ct E2) => forL g m ds E2
      | some (.bk E2) => some (.nx E2)
      | some (.rt r E2) => some (.rt r E2)
      | none => none
    | none => none
def forS (i : M (List Dt)) (g : Vl → En → Option En) (m : En → Option Rs) : En → Option Rs := fun E => match i E with
  | some (ds, E1) => forL g m ds E1
  | none => none
theorem Serves.new {J : It} {K : PySem.W.Frag} {Hd : Hp} {ds : List Dt} (s : Serves J K Hd ds) {μ : List Addr} {Hd1 H1 : Hp} {σ : L2.St} {E : En} (R : Rl K μ Hd1 H1 σ E) (e : Ex Hd Hd1) {i : Nat} {d : Dt} (hd : ds[i]? = some d) :
    J.go i H1 ∧ ∀ x H', J.yld i H1 x H' → ∃ Hd', Gr μ Hd1 μ Hd' ∧ Rl K μ Hd' H' σ E ∧ Rp K Hd' d x := by
  obtain ⟨h1, h2⟩ := (s Hd1 H1 i e R.wo.ex).2 d hd
  refine ⟨h1, fun x H' hy => ?_⟩
  obtain ⟨Hd', hc, hr⟩ := h2 x H' hy
  rcases hc with ⟨rfl, rfl⟩ | ⟨p, o, hp, rfl, rfl⟩
  · exact ⟨Hd', Gr.refl μ Hd', R, hr⟩
  · obtain ⟨g, R'⟩ := R.newD (o := o) hp
    exact ⟨_, g, R', hr⟩
theorem drop_cons {α : Type} {l : List α} {i : Nat} {x : α} {r : List α} (h : l.drop i = x :: r) : l[i]? = some x ∧ l.drop (i + 1) = r := by
  constructor
  · have q : (l.drop i)[0]? = some x := by
      rw [h]
      rfl
    rw [List.getElem?_drop] at q
    simpa using q
  · have q : (l.drop i).drop 1 = r := by
      rw [h]
      rfl
    rw [List.drop_drop] at q
    simpa [Nat.add_comm] using q
theorem sm_for {K : PySem.W.Frag} {wi : TI} {mi : M (List Dt)} {g : TG} {gm : Vl → En → Option En} (hi : IM K wi mi) (hg : GM K g gm) (hb : SM K ts ms) : SM K (tFor wi g ts) (forS mi gm ms) := fun {μ Hd H σ E R} r q D d => by
  unfold forS at q
  cases q1 : mi E with
  | none =>
    rw [q1] at q
    cases q
  | some p =>
    obtain ⟨ds, E1⟩ := p
    rw [q1] at q
    refine hi r q1 _ fun μ1 Hd1 H1 J g1 R1 sv => ?_
    refine ⟨fun i k σ' H' => ∃ μ' Hd' E', Gr μ1 Hd1 μ' Hd' ∧ Rl K μ' Hd' H' σ' E' ∧ k = ds.length - i ∧ forL gm ms (ds.drop i) E' = some R, ⟨_, μ1, Hd1, E1, Gr.refl _ _, R1, rfl, q⟩, fun i k σ' H' hw => ?_⟩
    obtain ⟨μ', Hd', E', g2, R2, ek, q2⟩ := hw
    cases hd : ds.drop i with
    | nil =>
      rw [hd] at q2
      cases q2
      have hl : ds.length ≤ i := by
        have := congrArg List.length hd
        rw [List.length_drop] at this
        simp at this
        omega
      exact .inl ⟨(sv Hd' H' i g2.ex R2.wo.ex).1 hl, d μ' Hd' H' σ' (g1.trans g2) R2⟩
    | cons x rest =>
      rw [hd] at q2
      obtain ⟨hx, hr⟩ := drop_cons hd
      have hl : i < ds.length := (List.getElem?_eq_some_iff.mp hx).1
      obtain ⟨s1, s2⟩ := sv.new R2 g2.ex hx
      refine .inr ⟨s1, fun σ2 H2 => ∃ m', m' < k ∧ ∃ μ2 Hd2 E2, Gr μ1 Hd1 μ2 Hd2 ∧ Rl K μ2 Hd2 H2 σ2 E2 ∧ m' = ds.length - (i + 1) ∧ forL gm ms (ds.drop (i + 1)) E2 = some R, fun _ _ h => h, fun v H3 hy => ?_⟩
      obtain ⟨Hd3, g3, R3, r3⟩ := s2 v H3 hy
      unfold forL at q2
      cases q3 : gm (.d x) E' with
      | none =>
        rw [q3] at q2
        cases q2
      | some E3 =>
        rw [q3] at q2
        refine hg R3 (r := .d x) r3 q3 _ fun μ4 Hd4 H4 σ4 g4 R4 => ?_
        have q2 : (match ms E3 with
          | some (.nx E2) => forL gm ms rest E2
          | some (.ct E2) => forL gm ms rest E2
          | some (.bk E2) => some (.nx E2)
          | some (.rt r E2) => some (.rt r E2)
          | none => none) = some R := q2
        cases q4 : ms E3 with
        | none =>
          rw [q4] at q2
          cases q2
        | some Q =>
          rw [q4] at q2
          have gg : Gr μ1 Hd1 μ4 Hd4 := (g2.trans g3).trans g4
          refine hb R4 q4 _ ?_
          cases Q with
          | nx E5 => exact fun μ5 Hd5 H5 σ5 g5 R5 => ⟨ds.length - (i + 1), by omega, μ5, Hd5, E5, gg.trans g5, R5, rfl, by rw [hr]; exact q2⟩
          | ct E5 => exact fun μ5 Hd5 H5 σ5 g5 R5 => ⟨ds.length - (i + 1), by omega, μ5, Hd5, E5, gg.trans g5, R5, rfl, by rw [hr]; exact q2⟩
          | bk E5 =>
            cases q2
            exact fun μ5 Hd5 H5 σ5 g5 R5 => d μ5 Hd5 H5 σ5 ((g1.trans gg).trans g5) R5
          | rt v E5 =>
            cases q2
            exact fun μ5 Hd5 H5 σ5 w g5 R5 r5 => d μ5 Hd5 H5 σ5 w ((g1.trans gg).trans g5) R5 r5
theorem sfor {wi : TI} {mi : M (List Dt)} {g : TG} {gm : Vl → En → Option En} (hp : PassesOwn (model X.prog X.w) X.A X.env X.xe) (hc : X.calm = true) (hi : Ix_ X tg iter wi mi) (hg : Gx X tg g gm) (hb : Bx X sts ts ms)
    (hs : ∀ x, foldedSetIterable iter X.env x = pure x := by intro _; rfl) : Sx X (.For tg iter sts [] pos) (tFor wi g ts) (forS mi gm ms) := ⟨ps_for hp hc hi.pi hg.pg hb.ps hs, sm_for hi.im hg.gm hb.sm⟩
/-! ### targets, iterables -/
def nameG (i : Nat) : Vl → En → Option En := fun r E => some (setE i r E)
theorem gm_name {K : PySem.W.Frag} (i : Nat) : GM K (gName i) (nameG i) := fun {μ Hd H σ E E' r v} R h e Q q => by
  cases e
  exact q μ Hd H _ (Gr.refl μ Hd) (R.setE i h)
theorem gname (i : Nat) {x : Str} (hN : X.N.Nodup) (hi : X.N[i]? = some x := by rfl) (hx : Loc X.env.scope x := by first | exact Or.inl rfl | exact Or.inr rfl) (hf : X.fn x = true ∨ X.env.scope.names.lookup x = some .local := by first | exact .inl rfl | exact .inr rfl) :
    Gx X (.Name x pos) (gName i) (nameG i) := ⟨pg_name hN hi hx hf, gm_name i⟩
/-- a, b, .. out of a tuple that is data -/
def gsL : List (Vl → En → Option En) → List Dt → En → Option En
  | [], [], E => some E
  | g :: gs, d :: ds, E => match g (.d d) E with
    | some E1 => gsL gs ds E1
    | none => none
  | _, _, _ => none
def tupG (gs : List (Vl → En → Option En)) : Vl → En → Option En
  | .d (.tup ds), E => gsL gs ds E
  | _, _ => none
def GsM (K : PySem.W.Frag) (t : TGs) (gs : List (Vl → En → Option En)) : Prop := ∀ {μ : List Addr} {Hd H : Hp} {σ : L2.St} {E E' : En} {ds : List Dt} {vs : List V}, Rl K μ Hd H σ E → RpA K Hd ds vs → gsL gs ds E = some E' → ∀ Q : L2.St → Hp → Prop,
  (∀ μ' Hd' H' σ', Gr μ Hd μ' Hd' → Rl K μ' Hd' H' σ' E' → Q σ' H') → t vs σ H Q
theorem gsm_nil {K : PySem.W.Frag} : GsM K gNil [] := fun {μ Hd H σ E E' ds vs} R h e Q q => by
  cases ds with
  | nil =>
    cases e
    exact ⟨h, q μ Hd H σ (Gr.refl μ Hd) R⟩
  | cons d ds => cases e
theorem gsm_cons {K : PySem.W.Frag} {t : TG} {u : TGs} {g : Vl → En → Option En} {gs : List (Vl → En → Option En)} (h1 : GM K t g) (h2 : GsM K u gs) : GsM K (gCons t u) (g :: gs) := fun {μ Hd H σ E E' ds vs} R h e Q q => by
  cases ds with
  | nil => cases e
  | cons d ds =>
    unfold gsL at e
    cases q1 : g (.d d) E with
    | none =>
      rw [q1] at e
      cases e
    | some E1 =>
      rw [q1] at e
      obtain ⟨x, r, rfl, p1, p2⟩ := h
      refine ⟨x, r, rfl, h1 R (r := .d d) p1 q1 _ fun μ1 Hd1 H1 σ1 g1 R1 => ?_⟩
      exact h2 R1 (RpA.ex g1.ex _ _ p2) e Q fun μ2 Hd2 H2 σ2 g2 R2 => q μ2 Hd2 H2 σ2 (g1.trans g2) R2
theorem gsL_len {gs : List (Vl → En → Option En)} : ∀ {ds : List Dt} {E E' : En}, gsL gs ds E = some E' → ds.length = gs.length := by
  induction gs with
  | nil =>
    intro ds E E' h
    cases ds with
    | nil => rfl
    | cons d ds => cases h
  | cons g gs ih =>
    intro ds E E' h
    cases ds with
    | nil => cases h
    | cons d ds =>
      unfold gsL at h
      cases q1 : g (.d d) E with
      | none =>
        rw [q1] at h
        cases h
      | some E1 =>
        rw [q1] at h
        rw [List.length_cons, List.length_cons, ih h]
theorem gm_tup {K : PySem.W.Frag} {t : TGs} {gs : List (Vl → En → Option En)} {n : Nat} (hn : gs.length = n) (h : GsM K t gs) : GM K (gTup K n t) (tupG gs) := fun {μ Hd H σ E E' r v} R hv e Q q => by
  unfold tupG at e
  split at e
  · rename_i ds
    obtain ⟨a, vs, rfl, h2, h3⟩ := hv
    exact ⟨a, vs, rfl, ex_t R.wo.ex h2, by rw [h3.len, gsL_len e, hn], h R h3 e Q q⟩
  · cases e
theorem PI.or {w1 w2 : TI} (h1 : PI X tg iter w1) (h2 : PI X tg iter w2) : PI X tg iter (fun σ H R => w1 σ H R ∨ w2 σ H R) := ⟨fun pins s σ H R I h => by
  rcases h with h | h
  · exact h1.run pins s σ H R I h
  · exact h2.run pins s σ H R I h⟩
/-- the items of a list, of a tuple; a cell's list is data from then on -/
def itemsD : Dt → Option (List Dt)
  | .lst xs => some xs
  | .sq xs => some xs
  | .tup xs => some xs
  | _ => none
def itemsM (m : M Vl) : M (List Dt) := bindM (bindM m fzM) fun d => fun E => (itemsD d).map fun xs => (xs, E)
theorem serves_l {K : PySem.W.Frag} {Hd : Hp} {a : Addr} {ds : List Dt} {vs : List V} (h : SqL K Hd a vs) (hr : RpA K Hd ds vs) : Serves (Itl K a) K Hd ds := fun Hd1 H1 i e1 e2 => by
  have h1 := ex_l e2 (ex_l e1 h)
  refine ⟨fun hl => ⟨vs, h1, by rw [hr.len]; exact hl⟩, fun d hd => ?_⟩
  obtain ⟨v, g1, g2⟩ := RpA.at hr hd
  exact ⟨⟨vs, v, h1, g1⟩, fun x H' ⟨q1, q2⟩ => ⟨Hd1, .inl ⟨q1, rfl⟩, by
    have := Option.some.inj ((q2 vs h1).symm.trans g1)
    subst this
    exact Rp.ex e1 _ _ g2⟩⟩
theorem serves_t {K : PySem.W.Frag} {Hd : Hp} {a : Addr} {ds : List Dt} {vs : List V} (h : SqT K Hd a vs) (hr : RpA K Hd ds vs) : Serves (Itt K a) K Hd ds := fun Hd1 H1 i e1 e2 => by
  have h1 := ex_t e2 (ex_t e1 h)
  refine ⟨fun hl => ⟨vs, h1, by rw [hr.len]; exact hl⟩, fun d hd => ?_⟩
  obtain ⟨v, g1, g2⟩ := RpA.at hr hd
  exact ⟨⟨vs, v, h1, g1⟩, fun x H' ⟨q1, q2⟩ => ⟨Hd1, .inl ⟨q1, rfl⟩, by
    have := Option.some.inj ((q2 vs h1).symm.trans g1)
    subst this
    exact Rp.ex e1 _ _ g2⟩⟩
theorem iseq {te : TE} {m : M Vl} (h : Ex_ X iter te m) : Ix_ X tg iter (fun σ H R => iList X.K te σ H R ∨ iTup X.K te σ H R) (itemsM m) := ⟨PI.or (pi_list h.pe) (pi_tup h.pe), fun {μ Hd H σ E ds E'} R e Q q => by
  obtain ⟨d, E1, e1, e2⟩ := bindM_some e
  obtain ⟨r, E2, e3, e4⟩ := bindM_some e1
  cases d with
  | lst xs =>
    cases e2
    refine .inl (h.em R e3 _ fun μ1 Hd1 H1 v g1 R1 r1 => ?_)
    obtain ⟨Hd2, g2, R2, r2⟩ := fzM_ok R1 r1 e4
    obtain ⟨a, vs, rfl, h2, h3⟩ := r2
    exact ⟨a, rfl, ⟨vs, sq_of (R2.wo.ex a _ h2)⟩, q μ1 Hd2 H1 _ (g1.trans g2) R2 (serves_l (sq_of h2) h3)⟩
  | sq xs =>
    cases e2
    refine .inl (h.em R e3 _ fun μ1 Hd1 H1 v g1 R1 r1 => ?_)
    obtain ⟨Hd2, g2, R2, r2⟩ := fzM_ok R1 r1 e4
    obtain ⟨a, vs, rfl, h2, h3⟩ := r2
    exact ⟨a, rfl, ⟨vs, ex_l R2.wo.ex h2⟩, q μ1 Hd2 H1 _ (g1.trans g2) R2 (serves_l h2 h3)⟩
  | tup xs =>
    cases e2
    refine .inr (h.em R e3 _ fun μ1 Hd1 H1 v g1 R1 r1 => ?_)
    obtain ⟨Hd2, g2, R2, r2⟩ := fzM_ok R1 r1 e4
    obtain ⟨a, vs, rfl, h2, h3⟩ := r2
    exact ⟨a, rfl, ⟨vs, ex_t R2.wo.ex h2⟩, q μ1 Hd2 H1 _ (g1.trans g2) R2 (serves_t h2 h3)⟩
  | _ => cases e2⟩
def rngL (lo : Int) (n : Nat) : List Dt := (List.range n).map fun (i : Nat) => .int (lo + (i : Int))
theorem serves_r {K : PySem.W.Frag} {Hd : Hp} (lo : Int) (n : Nat) : Serves (Itr lo n) K Hd (rngL lo n) := fun Hd1 H1 i e1 e2 => by
  have hl : (rngL lo n).length = n := by simp [rngL]
  refine ⟨fun h => by rw [hl] at h; exact h, fun d hd => ?_⟩
  have hi : i < n := by
    have := (List.getElem?_eq_some_iff.mp hd).1
    omega
  refine ⟨hi, fun x H' ⟨q1, q2⟩ => ⟨Hd1, .inl ⟨q1, rfl⟩, ?_⟩⟩
  have e : d = .int (lo + (i : Int)) := by
    unfold rngL at hd
    rw [List.getElem?_map, List.getElem?_range hi] at hd
    exact (Option.some.inj hd).symm
  subst e q2
  exact rfl
def rng1M (m : M (List Vl)) : M (List Dt) := bindM m fun rs => match rs with
  | [.d (.int n)] => fun E => if -(2 ^ 62) ≤ n ∧ n < 2 ^ 62 then some (rngL 0 n.toNat, E) else none
  | _ => failM
theorem irng1 {p : Pos} (hm : X.mg "range" = none) (ha : Ax X [a] tes mes) (hg : Gl X "range" := by rfl) (hs : starEach [a] X.env = [(false, eval a X.env)] := by rfl) : Ix_ X tg (.Call (.Name "range" p) [a] [] pos) (iRng1 tes) (rng1M mes) := ⟨pi_range1 hg hm ha.pa hs, fun {μ Hd H σ E ds E'} R e Q q => by
  obtain ⟨rs, E1, e1, e2⟩ := bindM_some e
  split at e2
  · rename_i n
    split at e2
    · rename_i hn
      cases e2
      refine ha.am R e1 _ fun μ1 Hd1 H1 vs g1 R1 r1 => ?_
      cases r1 with
      | cons p1 t =>
        cases t
        cases (show _ = V.int n from p1)
        exact ⟨n, rfl, hn.1, hn.2, q μ1 Hd1 H1 _ g1 R1 (serves_r 0 n.toNat)⟩
    · cases e2
  · cases e2⟩
def rng2M (m : M (List Vl)) : M (List Dt) := bindM m fun rs => match rs with
  | [.d (.int i), .d (.int j)] => fun E => if -(2 ^ 62) ≤ i ∧ i < 2 ^ 62 ∧ -(2 ^ 62) ≤ j ∧ j < 2 ^ 62 then some (rngL i (j - i).toNat, E) else none
  | _ => failM
theorem irng2 {p : Pos} (hm : X.mg "range" = none) (ha : Ax X [a, b] tes mes) (hg : Gl X "range" := by rfl) (hs : starEach [a, b] X.env = [(false, eval a X.env), (false, eval b X.env)] := by rfl) (hs2 : starEach [b] X.env = [(false, eval b X.env)] := by rfl) : Ix_ X tg (.Call (.Name "range" p) [a, b] [] pos) (iRng2 tes) (rng2M mes) := ⟨pi_range2 hg hm ha.pa hs hs2, fun {μ Hd H σ E ds E'} R e Q q => by
  obtain ⟨rs, E1, e1, e2⟩ := bindM_some e
  split at e2
  · rename_i i j
    split at e2
    · rename_i hn
      cases e2
      refine ha.am R e1 _ fun μ1 Hd1 H1 vs g1 R1 r1 => ?_
      cases r1 with
      | cons p1 t =>
        cases t with
        | cons p2 t2 =>
          cases t2
          cases (show _ = V.int i from p1)
          cases (show _ = V.int j from p2)
          exact ⟨i, j, rfl, hn, q μ1 Hd1 H1 _ g1 R1 (serves_r i (j - i).toNat)⟩
    · cases e2
  · cases e2⟩
end

/-! ### a def's promise: what it does to values and cells -/
abbrev Fn := List Vl → List Ce → Option (Vl × List Ce)
def spM (K : PySem.W.Frag) (n : Nat) (G : Fn) : Sp := fun vs H Q _ => vs.length = n ∧ ∃ (μ : List Addr) (Hd : Hp) (ce : List Ce) (rs : List Vl) (z : Vl) (ce' : List Ce), Wo K μ Hd H ce ∧ RvA K μ Hd rs vs ∧ G rs ce = some (z, ce') ∧
  ∀ μ' Hd' H' v, Gr μ Hd μ' Hd' → Wo K μ' Hd' H' ce' → Rv K μ' Hd' z v → Q v H'
/-- back in the caller: the cells that it knew, and the one that is handed back -/
def trimC (n : Nat) (z : Vl) (ce : List Ce) : Option (Vl × List Ce) := match z with
  | .d d => some (.d d, ce.take n)
  | .c k => if k < n then some (.c k, ce.take n) else match ce[k]? with
    | some c => some (.c n, ce.take n ++ [c])
    | none => none
theorem Wo.trim {K : PySem.W.Frag} {μ0 μ : List Addr} {Hd0 Hd H : Hp} {ce : List Ce} {n : Nat} {z z' : Vl} {v : V} {ce' : List Ce} (w : Wo K μ Hd H ce) (g : Gr μ0 Hd0 μ Hd) (hn : μ0.length = n) (hv : Rv K μ Hd z v) (h : trimC n z ce = some (z', ce')) :
    ∃ μ', Gr μ0 Hd0 μ' Hd ∧ Wo K μ' Hd H ce' ∧ Rv K μ' Hd z' v := by
  have hle : n ≤ μ.length := by
    rw [← hn]
    cases n with
    | zero => omega
    | succ n =>
      have h1 : μ0[n]? = some (μ0[n]'(by omega)) := List.getElem?_eq_getElem (by omega)
      have := (List.getElem?_eq_some_iff.mp (g.pre n _ h1)).1
      omega
  have pre : ∀ (k : Nat) (a : Addr), μ0[k]? = some a → (μ.take n)[k]? = some a := fun k a hk => by
    have := (List.getElem?_eq_some_iff.mp hk).1
    rw [List.getElem?_take_of_lt (by omega)]
    exact g.pre k a hk
  have tk : ∀ {α : Type} {l : List α} {k : Nat} {x : α}, (l.take n)[k]? = some x → l[k]? = some x := fun {α l k x} h => by
    rw [List.getElem?_take] at h
    split at h
    · exact h
    · cases h
  have wt : Wo K (μ.take n) Hd H (ce.take n) := ⟨w.ex, by rw [List.length_take, List.length_take, w.len], fun k c a h1 h2 => w.at_ k c a (tk h1) (tk h2), fun j k a c e h1 h2 h3 h4 => w.inj j k a c e (tk h1) (tk h2) (tk h3) (tk h4)⟩
  unfold trimC at h
  cases z with
  | d d =>
    cases h
    exact ⟨μ.take n, ⟨pre, g.ex⟩, wt, hv⟩
  | c k =>
    obtain ⟨a, ha, rfl⟩ := hv
    have h : (if k < n then some (Vl.c k, ce.take n) else match ce[k]? with
      | some c => some (.c n, ce.take n ++ [c])
      | none => none) = some (z', ce') := h
    by_cases hk : k < n
    · rw [if_pos hk] at h
      cases h
      exact ⟨μ.take n, ⟨pre, g.ex⟩, wt, a, by rw [List.getElem?_take_of_lt hk]; exact ha, rfl⟩
    · rw [if_neg hk] at h
      cases hc : ce[k]? with
      | none =>
        rw [hc] at h
        cases h
      | some c =>
        rw [hc] at h
        cases h
        have lt : (μ.take n).length = n := by rw [List.length_take]; omega
        have lc : (ce.take n).length = n := by rw [List.length_take, ← w.len]; omega
        refine ⟨μ.take n ++ [a], ⟨fun j b hj => pre_app j b (pre j b hj), g.ex⟩, ⟨w.ex, by rw [List.length_append, List.length_append, lt, lc]; rfl, fun j e b h1 h2 => ?_, fun i j b e f h1 h2 h3 h4 l1 l2 => ?_⟩, a, ?_, rfl⟩
        · rcases get_append_one h1 with h1 | ⟨h1, rfl⟩ <;> rcases get_append_one h2 with h2 | ⟨h2, rfl⟩
          · exact w.at_ j e b (tk h1) (tk h2)
          · have := (List.getElem?_eq_some_iff.mp h1).1
            omega
          · have := (List.getElem?_eq_some_iff.mp h2).1
            omega
          · exact w.at_ k e b hc ha
        · have cs : ∀ {i : Nat} {b : Addr} {e : Ce}, (μ.take n ++ [a])[i]? = some b → (ce.take n ++ [c])[i]? = some e → (i < n ∧ μ[i]? = some b ∧ ce[i]? = some e) ∨ (i = n ∧ μ[k]? = some b ∧ ce[k]? = some e) := fun {i b e} h1 h2 => by
            rcases get_append_one h1 with h1 | ⟨h1, q1⟩ <;> rcases get_append_one h2 with h2 | ⟨h2, q2⟩
            · have := (List.getElem?_eq_some_iff.mp h1).1
              exact .inl ⟨by omega, tk h1, tk h2⟩
            · have := (List.getElem?_eq_some_iff.mp h1).1
              omega
            · have := (List.getElem?_eq_some_iff.mp h2).1
              omega
            · exact .inr ⟨by omega, by rw [q1]; exact ha, by rw [q2]; exact hc⟩
          rcases cs h1 h3 with ⟨i1, i2, i3⟩ | ⟨i1, i2, i3⟩ <;> rcases cs h2 h4 with ⟨j1, j2, j3⟩ | ⟨j1, j2, j3⟩
          · exact w.inj i j b e f i2 j2 i3 j3 l1 l2
          · have q : i = k := w.inj i k b e f i2 j2 i3 j3 l1 l2
            omega
          · have q : k = j := w.inj k j b e f i2 j2 i3 j3 l1 l2
            omega
          · omega
        · have q : (μ.take n ++ [a])[(μ.take n).length]? = some a := by simp
          rw [lt] at q
          exact q
/-- a body as a function: nl local names beside the parameters -/
def fnOf (nl : Nat) (m : En → Option Rs) : Fn := fun rs ce => match m ⟨rs.map some ++ List.replicate nl none, ce⟩ with
  | some (.rt z E) => trimC ce.length z E.ce
  | some (.nx E) => trimC ce.length (.d .non) E.ce
  | _ => none
theorem sl_start {K : PySem.W.Frag} {μ : List Addr} {Hd : Hp} {nl : Nat} : ∀ {rs : List Vl} {vs : List V}, RvA K μ Hd rs vs → Sl K μ Hd (vs.map some ++ List.replicate nl none) (rs.map some ++ List.replicate nl none) := fun {rs vs} h => by
  refine ⟨by rw [List.length_append, List.length_append, List.length_map, List.length_map, h.len, List.length_replicate, List.length_replicate], ?_⟩
  induction h with
  | nil =>
    intro i r e
    have e : (List.replicate nl (none : Option Vl))[i]? = some (some r) := e
    rw [List.getElem?_replicate] at e
    split at e <;> cases e
  | cons h1 t ih =>
    intro i r e
    cases i with
    | zero =>
      cases e
      exact ⟨_, rfl, h1⟩
    | succ i => exact ih i r e
theorem run_fn {K : PySem.W.Frag} {nl n : Nat} {N : List Str} {ts : TS} {m : En → Option Rs} {vs : List V} {H : Hp} {Q : VK} {E : XK} (hm : SM K ts m) (hN : N.length = n + nl) (h : spM K n (fnOf nl m) vs H Q E) : ts { nx := fun _ H' => Q .non H', rt := Q } (L2.start N vs) H := by
  obtain ⟨hl, μ, Hd, ce, rs, z, ce', w, hr, e, q⟩ := h
  have es : L2.start N vs = vs.map some ++ List.replicate nl none := by
    unfold L2.start
    rw [hN, hl, Nat.add_sub_cancel_left]
  rw [es]
  unfold fnOf at e
  have R0 : Rl K μ Hd H (vs.map some ++ List.replicate nl none) ⟨rs.map some ++ List.replicate nl none, ce⟩ := ⟨w, sl_start hr⟩
  cases e1 : m ⟨rs.map some ++ List.replicate nl none, ce⟩ with
  | none =>
    rw [e1] at e
    cases e
  | some R =>
    rw [e1] at e
    refine hm R0 e1 _ ?_
    cases R with
    | rt z0 E1 =>
      exact fun μ1 Hd1 H1 σ1 v g1 R1 r1 => by
        obtain ⟨μ2, g2, w2, r2⟩ := R1.wo.trim g1 w.len r1 e
        exact q μ2 Hd1 H1 v g2 w2 r2
    | nx E1 =>
      exact fun μ1 Hd1 H1 σ1 g1 R1 => by
        obtain ⟨μ2, g2, w2, r2⟩ := R1.wo.trim g1 w.len (z := .d .non) (v := .non) (rfl : V.non = .non) e
        exact q μ2 Hd1 H1 .non g2 w2 r2
    | bk E1 => cases e
    | ct E1 => cases e
theorem spM_len {K : PySem.W.Frag} {n : Nat} {G : Fn} {ps : List Str} (hp : ps.length = n) : ∀ vs H Q E, spM K n G vs H Q E → vs.length = ps.length := fun vs H Q E h => by rw [hp]; exact h.1
/-- a call of a def -/
def callM (G : Fn) (m : M (List Vl)) : M Vl := bindM m fun rs => fun E => match G rs E.ce with
  | some (z, ce) => some (z, ⟨E.sl, ce⟩)
  | none => none
section
variable {X : Cx} {e : Expr} {es : List Expr} {tes : TA} {mes : M (List Vl)} {pos : Pos}
theorem em_call {K : PySem.W.Frag} {G : Fn} {n : Nat} {ta : TA} {ma : M (List Vl)} {E0 : XK} (hn : ∀ E rs E', ma E = some (rs, E') → rs.length = n) (h : AM K ta ma) : EM K (tCall (spM K n G) [] E0 ta) (callM G ma) := fun {μ Hd H σ E r E'} R q Q k => by
  obtain ⟨rs, E1, e1, e2⟩ := bindM_some q
  cases e3 : G rs E1.ce with
  | none =>
    rw [e3] at e2
    cases e2
  | some p =>
    obtain ⟨z, ce⟩ := p
    rw [e3] at e2
    cases e2
    refine h R e1 _ fun μ1 Hd1 H1 vs g1 R1 r1 => ?_
    rw [List.append_nil]
    exact ⟨by rw [r1.len, hn _ _ _ e1], μ1, Hd1, E1.ce, rs, r, ce, R1.wo, r1, e3, fun μ2 Hd2 H2 v g2 w2 r2 => k μ2 Hd2 H2 v (g1.trans g2) ⟨w2, R1.sl.gr g2⟩ r2⟩
theorem nil_len {n : Nat} (h : n = 0) : ∀ (E : En) (rs : List Vl) (E' : En), (retM [] : M (List Vl)) E = some (rs, E') → rs.length = n := fun E rs E' e => by
  cases e
  rw [h]
  rfl
theorem cons_len {n k : Nat} {m : M Vl} {ms : M (List Vl)} (h : ∀ (E : En) (rs : List Vl) (E' : En), ms E = some (rs, E') → rs.length = n) (hk : k = n + 1) : ∀ (E : En) (rs : List Vl) (E' : En), consM m ms E = some (rs, E') → rs.length = k := fun E rs E' e => by
  obtain ⟨x, E1, e1, e⟩ := bindM_some e
  obtain ⟨xs, E2, e2, e⟩ := bindM_some e
  cases e
  rw [List.length_cons, h _ _ _ e2, hk]
end
end Hk
/-! HkT: tuple * int, also by 1, by 0 and below. -/
namespace Hk
open PySem PySem.Spec PyProof.Rows L2 Evl
theorem tuple_mul1 (l : Addr) (items : Array Value) (n : Nat) (dd : Option Addr) (sl : Array (Option Value)) (x : Int) (u : Tok) (c0 : (decide (x < -(2 ^ 63)) || decide (x ≥ 2 ^ 63)) = false) (c1 : (items.isEmpty || x == 1) = true) :
    Meets (Builtin.«tuple.__mul__» ⟨[.ref l, .int x u], []⟩) (fun _ R s => s.heap.get? l = some { cls := .type "tuple", dict := dd, data := .seq items n, slots := sl } ∧ R (.ok (.ret (Value.ref l))) { s with heap := s.heap, toks := s.toks }) :=
  .of_wp fun prog w A R s h => by
    obtain ⟨hp, g, d, tk, os⟩ := s
    obtain ⟨hl, h⟩ := h
    have f1 := AutoSeq1.idx_int
    wp_walk using wpAny_loadPart' hl
    repeat (first
      | (refine wpAny_ite_false (decide_eq_false (by rw [c0]; exact Bool.false_ne_true)) ?_; wp_walk using wpAny_loadPart' hl)
      | (refine wpAny_ite_true (decide_eq_true (by rw [c1])) ?_; wp_walk using wpAny_loadPart' hl))
    exact ⟨_, rfl, h⟩
theorem tuple_mul0 (l : Addr) (items : Array Value) (n : Nat) (dd : Option Addr) (sl : Array (Option Value)) (x : Int) (u : Tok) (c0 : (decide (x < -(2 ^ 63)) || decide (x ≥ 2 ^ 63)) = false) (c1 : (items.isEmpty || x == 1) = false) (c2 : (decide (x ≤ 0) || items.isEmpty) = true) :
    Meets (Builtin.«tuple.__mul__» ⟨[.ref l, .int x u], []⟩) (fun _ R s => s.heap.get? l = some { cls := .type "tuple", dict := dd, data := .seq items n, slots := sl } ∧
      R (.ok (.ret (Value.ref s.heap.objs.size))) { s with heap := s.heap.push { cls := Value.type "tuple", data := Data.seq #[] }, toks := s.toks }) :=
  .of_wp fun prog w A R s h => by
    obtain ⟨hp, g, d, tk, os⟩ := s
    obtain ⟨hl, h⟩ := h
    have f1 := AutoSeq1.idx_int
    wp_walk using wpAny_loadPart' hl
    repeat (first
      | (refine wpAny_ite_false (decide_eq_false (by rw [c0]; exact Bool.false_ne_true)) ?_; wp_walk using wpAny_loadPart' hl)
      | (refine wpAny_ite_false (decide_eq_false (by rw [c1]; exact Bool.false_ne_true)) ?_; wp_walk using wpAny_loadPart' hl)
      | (refine wpAny_ite_true (decide_eq_true (by rw [c2])) ?_; wp_walk using wpAny_loadPart' hl))
    exact ⟨_, rfl, h⟩
def rRepU (K : PySem.W.Frag) : R2 := fun x y H Q => ∃ l k xs, x = .ref l ∧ y = .int k ∧ SqT K H l xs ∧ xs ≠ [] ∧ -1000 ≤ k ∧ k ≤ 1000 ∧ xs.length ≤ 1000 ∧ (k = 1 → Q (.ref l) H) ∧ (k ≠ 1 → ∀ p, H p = none → Q (.ref p) (upd H p (.tup (List.replicate k.toNat xs).flatten)))
section
variable {X : Cx}
theorem op_repU : OpR X (binaryOp .Mult) (rRepU X.K) := by
  intro pins s σ H x y v u Q I rx ry h
  obtain ⟨l, k, xs, rfl, rfl, hT, hne, h1, h2, hz, q1, q⟩ := h
  by_cases hk : 2 ≤ k
  · exact op_repT pins s σ H _ _ v u Q I rx ry ⟨l, k, xs, rfl, rfl, hT, hne, hk, h2, hz, q (by omega)⟩
  cases rx
  obtain ⟨t, rfl⟩ := ry
  obtain ⟨its, r, ⟨⟨cls, dd, data, sl⟩, ho, hc, n, hd⟩, hs⟩ := I.tuple hT
  simp only at hc hd
  subst hc hd
  have hle : its.length = xs.length := r.length.symm
  have hn : its ≠ [] := fun e => hne (by
    rw [e] at hle
    exact List.eq_nil_of_length_eq_zero hle.symm)
  have hi : its.toArray.isEmpty = false := by
    cases its with
    | nil => exact absurd rfl hn
    | cons a b => rfl
  have c0 : (decide (k < -(2 ^ 63)) || decide (k ≥ 2 ^ 63)) = false := by
    rw [decide_eq_false (by omega), decide_eq_false (by omega)] <;> rfl
  by_cases hk1 : k = 1
  · have c1 : (its.toArray.isEmpty || k == 1) = true := by
      rw [hk1]
      cases its.toArray.isEmpty <;> rfl
    exact wpAny_binaryOp_repeat_ref (T := "tuple") (U := "int") (by decide) ⟨_, ho, rfl⟩ (fun s' => typeIs_int s' k t) noFill_tuple_mul F.fills_int_mul F.slot_int_rmul repeat_tuple F.slot_int_index.lookup
      (call_meets F.slot_int_rmul (typeIs_int s k t) F.entry_int_rmul (F.args_int_rmul_2 _ _) (int_rmul_tuple k t l its.toArray n dd sl)
        ⟨ho, rfl, ⟨_, ho, rfl⟩, call_meets F.slot_tuple_mul ⟨_, ho, rfl⟩ F.entry_tuple_mul (F.args_tuple_mul_2 _ _) (tuple_mul1 l its.toArray n dd sl k t c0 c1) ⟨ho, ⟨.ref l, H, I.tok _, rfl, q1 hk1⟩⟩⟩)
  · have c1 : (its.toArray.isEmpty || k == 1) = false := by
      rw [hi, Bool.false_or]
      exact beq_eq_false_iff_ne.mpr hk1
    have c2 : (decide (k ≤ 0) || its.toArray.isEmpty) = true := by
      rw [decide_eq_true (by omega)] <;> rfl
    refine wpAny_binaryOp_repeat_ref (T := "tuple") (U := "int") (by decide) ⟨_, ho, rfl⟩ (fun s' => typeIs_int s' k t) noFill_tuple_mul F.fills_int_mul F.slot_int_rmul repeat_tuple F.slot_int_index.lookup
      (call_meets F.slot_int_rmul (typeIs_int s k t) F.entry_int_rmul (F.args_int_rmul_2 _ _) (int_rmul_tuple k t l its.toArray n dd sl)
        ⟨ho, rfl, ⟨_, ho, rfl⟩, call_meets F.slot_tuple_mul ⟨_, ho, rfl⟩ F.entry_tuple_mul (F.args_tuple_mul_2 _ _) (tuple_mul0 l its.toArray n dd sl k t c0 c1 c2) ⟨ho, ?_⟩⟩)
    have e0 : (List.replicate k.toNat xs).flatten = [] := by
      have : k.toNat = 0 := by omega
      rw [this]
      rfl
    have q2 := q hk1
    rw [e0] at q2
    refine ⟨.ref s.heap.objs.size, _, I.laid (t' := s.toks) (o := .tup []) (fun b ob q => Heap.get?_push_of_some _ q) (Nat.le_refl _) ?_, rfl, q2 _ (I.hok.fresh (Nat.le_refl _))⟩
    exact ⟨Nat.zero_le _, [], .nil, IsTup.new _ _⟩
end
end Hk
/-! Hk4: operators, comparisons, items, slices, built-ins, a list's methods. -/
namespace Hk
open PySem PySem.Spec PyProof.Rows L2 Evl

def rNoU : R2 := fun x y H Q => y = .non ∧ Q (.bl (decide (x = .non))) H
def rNotNoU : R2 := fun x y H Q => y = .non ∧ Q (.bl (!decide (x = .non))) H
def rLenU (K : PySem.W.Frag) : List V → Hp → VK → Prop := fun xs H Q => ∃ x n, xs = [x] ∧ LenV K x H n ∧ Q (.int n) H
def rAbsU : List V → Hp → VK → Prop := fun xs H Q => ∃ i, xs = [.int i] ∧ Q (.int (if i < 0 then -i else i)) H
def rIntU : List V → Hp → VK → Prop := fun xs H Q => (∃ i, xs = [.int i] ∧ Q (.int i) H) ∨ ∃ k, xs = [.bl k] ∧ Q (.int (if k then 1 else 0)) H
def rMinU : List V → Hp → VK → Prop := fun xs H Q => ∃ i j, xs = [.int i, .int j] ∧ Q (.int (if j < i then j else i)) H
def rMaxU : List V → Hp → VK → Prop := fun xs H Q => ∃ i j, xs = [.int i, .int j] ∧ Q (.int (if j > i then j else i)) H
def rListU (K : PySem.W.Frag) : List V → Hp → VK → Prop := fun xs H Q => ∃ p ys, xs = [.ref p] ∧ (SqL K H p ys ∨ SqT K H p ys) ∧ ∀ l, H l = none → Q (.ref l) (upd H l (.lst ys))
def rTupU (K : PySem.W.Frag) : List V → Hp → VK → Prop := fun xs H Q => ∃ p ys, xs = [.ref p] ∧ ((SqL K H p ys ∧ ∀ l, H l = none → Q (.ref l) (upd H l (.tup ys))) ∨ (SqT K H p ys ∧ Q (.ref p) H))
theorem op_noU {X : Cx} : OpR X (compareOp .Is) rNoU := op_isN
theorem op_notNoU {X : Cx} : OpR X (compareOp .IsNot) rNotNoU := op_notN
theorem call_lenU {X : Cx} : CallR X (.builtin "len") (rLenU X.K) := call_len
theorem call_absU {X : Cx} : CallR X (.builtin "abs") rAbsU := call_abs
theorem call_intU {X : Cx} : CallR X (.type "int") rIntU := call_int1
theorem call_minU {X : Cx} (hc : X.calm = true) : CallR X (.builtin "min") rMinU := call_min2 hc
theorem call_maxU {X : Cx} (hc : X.calm = true) : CallR X (.builtin "max") rMaxU := call_max2 hc
theorem call_listU {X : Cx} : CallR X (.type "list") (rListU X.K) := call_list_of
theorem call_tupleU {X : Cx} : CallR X (.type "tuple") (rTupU X.K) := call_tuple_of

/-! ### data that can be compared -/
mutual
def toP : Dt → Option PyData
  | .non => some .none
  | .bl b => some (.bool b)
  | .int i => some (.int i)
  | .str s => some (.str s)
  | .lst xs => (toPA xs).map .list
  | .sq xs => (toPA xs).map .list
  | .tup xs => (toPA xs).map .tuple
  | _ => none
def toPA : List Dt → Option (List PyData)
  | [] => some []
  | d :: ds => match toP d, toPA ds with
    | some p, some ps => some (p :: ps)
    | _, _ => none
end
mutual
theorem toP_ok {K : PySem.W.Frag} {H : Hp} : ∀ (d : Dt) {v : V} {p : PyData}, Rp K H d v → toP d = some p → Dp K H v p
  | .non, v, p, h, e => by
    cases e
    cases (show v = .non from h)
    exact .non
  | .bl b, v, p, h, e => by
    cases e
    cases (show v = .bl b from h)
    exact .bl b
  | .int i, v, p, h, e => by
    cases e
    cases (show v = .int i from h)
    exact .int i
  | .str s, v, p, h, e => by
    cases e
    cases (show v = .str s from h)
    exact .str s
  | .lst xs, v, p, h, e => by
    obtain ⟨a, vs, rfl, h2, h3⟩ := h
    cases q : toPA xs with
    | none =>
      rw [toP, q] at e
      cases e
    | some ps =>
      rw [toP, q] at e
      cases e
      exact .lst (sq_of h2) (toPA_ok xs h3 q)
  | .sq xs, v, p, h, e => by
    obtain ⟨a, vs, rfl, h2, h3⟩ := h
    cases q : toPA xs with
    | none =>
      rw [toP, q] at e
      cases e
    | some ps =>
      rw [toP, q] at e
      cases e
      exact .lst h2 (toPA_ok xs h3 q)
  | .tup xs, v, p, h, e => by
    obtain ⟨a, vs, rfl, h2, h3⟩ := h
    cases q : toPA xs with
    | none =>
      rw [toP, q] at e
      cases e
    | some ps =>
      rw [toP, q] at e
      cases e
      exact .tup h2 (toPA_ok xs h3 q)
  | .obj C ns ds, v, p, h, e => by
    simp [toP] at e
  | .dic ks ds, v, p, h, e => by
    simp [toP] at e
theorem toPA_ok {K : PySem.W.Frag} {H : Hp} : ∀ (ds : List Dt) {vs : List V} {ps : List PyData}, RpA K H ds vs → toPA ds = some ps → DpAll K H vs ps
  | [], vs, ps, h, e => by
    cases e
    rw [show vs = [] from h]
    exact .nil
  | d :: ds, vs, ps, h, e => by
    obtain ⟨x, r, rfl, h2, h3⟩ := h
    cases q1 : toP d with
    | none =>
      rw [toPA, q1] at e
      · cases e
      all_goals (intros; nofun)
    | some p1 =>
      cases q2 : toPA ds with
      | none =>
        simp [toPA, q1, q2] at e
      | some p2 =>
        rw [toPA, q1, q2] at e
        cases e
        exact .cons (toP_ok d h2 q1) (toPA_ok ds h3 q2)
end
def eqd (x y : Dt) : Option Bool := match toP x, toP y with
  | some p, some q => if SeqAt.shaped p = true ∧ SeqAt.shaped q = true then some (PyData.eqv p q) else none
  | _, _ => none
theorem eqd_some {x y : Dt} {b : Bool} (h : eqd x y = some b) : ∃ p q, toP x = some p ∧ toP y = some q ∧ SeqAt.shaped p = true ∧ SeqAt.shaped q = true ∧ b = PyData.eqv p q := by
  unfold eqd at h
  split at h
  · rename_i p q e1 e2
    split at h
    · rename_i hs
      cases h
      exact ⟨p, q, e1, e2, hs.1, hs.2, rfl⟩
    · cases h
  · cases h

section
variable {K : PySem.W.Frag}
/-- an operation that looks at two values and hands back data that has no parts -/
def op2 (f : Dt → Dt → Option Dt) : Vl → Vl → M Vl := fun x y E => match see E.ce x, see E.ce y with
  | some a, some b => (f a b).map fun d => (.d d, E)
  | _, _ => none
theorem op2_some {f : Dt → Dt → Option Dt} {x y z : Vl} {E E' : En} (h : op2 f x y E = some (z, E')) : ∃ a b d, see E.ce x = some a ∧ see E.ce y = some b ∧ f a b = some d ∧ z = .d d ∧ E' = E := by
  unfold op2 at h
  split at h
  · rename_i a b e1 e2
    cases q : f a b with
    | none =>
      rw [q] at h
      cases h
    | some d =>
      rw [q] at h
      cases h
      exact ⟨a, b, d, e1, e2, q, rfl, rfl⟩
  · cases h
theorem om_op2 {r : R2} {f : Dt → Dt → Option Dt} (h : ∀ (H : Hp) (a b d : Dt) (vx vy : V), Rp K H a vx → Rp K H b vy → f a b = some d → ∀ Q : VK, (∀ v, (∀ H', Rp K H' d v) → Q v H) → r vx vy H Q) : OM K r (op2 f) := fun {μ Hd H σ E x y vx vy z E'} R hx hy e Q q => by
  obtain ⟨a, b, d, e1, e2, e3, rfl, rfl⟩ := op2_some e
  exact h H a b d vx vy (see_ok R.wo hx e1) (see_ok R.wo hy e2) e3 Q fun v hv => q μ Hd H v (Gr.refl μ Hd) R (hv Hd)
theorem om_or {r r' : R2} {f : Vl → Vl → M Vl} {g g' : Vl → Vl → M Vl} (h : OM K r g) (h' : OM K r' g') (hf : ∀ x y E z E', f x y E = some (z, E') → g x y E = some (z, E') ∨ g' x y E = some (z, E')) : OM K (fun x y H Q => r x y H Q ∨ r' x y H Q) f := fun {μ Hd H σ E x y vx vy z E'} R hx hy e Q q => by
  rcases hf _ _ _ _ _ e with e | e
  · exact .inl (h R hx hy e Q q)
  · exact .inr (h' R hx hy e Q q)

/-! ### comparisons -/
def eqF : Dt → Dt → Option Dt := fun x y => (eqd x y).map .bl
def neF : Dt → Dt → Option Dt := fun x y => (eqd x y).map fun b => .bl (!b)
theorem om_eq : OM K (rEqD K) (op2 eqF) := om_op2 fun H a b d vx vy ha hb e Q q => by
  unfold eqF at e
  cases e1 : eqd a b with
  | none =>
    rw [e1] at e
    cases e
  | some k =>
    rw [e1] at e
    cases e
    obtain ⟨p1, p2, h1, h2, s1, s2, rfl⟩ := eqd_some e1
    exact ⟨p1, p2, toP_ok a ha h1, toP_ok b hb h2, s1, s2, q _ fun _ => rfl⟩
theorem om_ne : OM K (rNeD K) (op2 neF) := om_op2 fun H a b d vx vy ha hb e Q q => by
  unfold neF at e
  cases e1 : eqd a b with
  | none =>
    rw [e1] at e
    cases e
  | some k =>
    rw [e1] at e
    cases e
    obtain ⟨p1, p2, h1, h2, s1, s2, rfl⟩ := eqd_some e1
    exact ⟨p1, p2, toP_ok a ha h1, toP_ok b hb h2, s1, s2, q _ fun _ => rfl⟩
/-- of two ints -/
def intF (g : Int → Int → Option Dt) : Dt → Dt → Option Dt
  | .int i, .int j => g i j
  | _, _ => none
theorem intF_some {g : Int → Int → Option Dt} {a b d : Dt} (h : intF g a b = some d) : ∃ i j, a = .int i ∧ b = .int j ∧ g i j = some d := by
  unfold intF at h
  split at h
  · exact ⟨_, _, rfl, rfl, h⟩
  · cases h
theorem om_intB {f : Int → Int → Bool} : OM K (rI0 fun i j => .bl (f i j)) (op2 (intF fun i j => some (.bl (f i j)))) := om_op2 fun H a b d vx vy ha hb e Q q => by
  obtain ⟨i, j, rfl, rfl, e⟩ := intF_some e
  cases e
  exact ⟨i, j, ha, hb, q _ fun _ => rfl⟩
theorem om_intI0 {f : Int → Int → Int} : OM K (rI0 fun i j => .int (f i j)) (op2 (intF fun i j => some (.int (f i j)))) := om_op2 fun H a b d vx vy ha hb e Q q => by
  obtain ⟨i, j, rfl, rfl, e⟩ := intF_some e
  cases e
  exact ⟨i, j, ha, hb, q _ fun _ => rfl⟩
theorem om_intI {C : Int → Int → Prop} [∀ i j, Decidable (C i j)] {f : Int → Int → Int} : OM K (rI C fun i j => .int (f i j)) (op2 (intF fun i j => if C i j then some (.int (f i j)) else none)) := om_op2 fun H a b d vx vy ha hb e Q q => by
  obtain ⟨i, j, rfl, rfl, e2⟩ := intF_some e
  split at e2
  · rename_i hc
    cases e2
    exact ⟨i, j, ha, hb, hc, q _ fun _ => rfl⟩
  · cases e2
abbrev ltF := intF fun i j => some (.bl (decide (i < j)))
abbrev leF := intF fun i j => some (.bl (decide (i ≤ j)))
abbrev gtF := intF fun i j => some (.bl (decide (j < i)))
abbrev geF := intF fun i j => some (.bl (decide (j ≤ i)))
instance : ∀ i j, Decidable (CDivN i j) := fun i j => by unfold CDivN; infer_instance
instance : ∀ i j, Decidable (CPow i j) := fun i j => by unfold CPow; infer_instance
instance : ∀ i j, Decidable (CMul i j) := fun i j => by unfold CMul; infer_instance
instance : ∀ (i j : Int), Decidable ((fun _ j => j ≠ 0 : Int → Int → Prop) i j) := fun i j => by show Decidable (j ≠ 0); infer_instance
abbrev modF := intF fun i j => if (fun _ j => j ≠ 0 : Int → Int → Prop) i j then some (.int (i.fmod j)) else none
abbrev fdivF := intF fun i j => if CDivN i j then some (.int (i.fdiv j)) else none
abbrev powF := intF fun i j => if CPow i j then some (.int (i ^ j.toNat)) else none
abbrev subF := intF fun i j => some (.int (i - j))
/-- is None -/
def isNF (neg : Bool) : Dt → Dt → Option Dt := fun x y => match y with
  | .non => match x with
    | .non => some (.bl (!neg))
    | _ => some (.bl neg)
  | _ => none
theorem Rp.non_iff {H : Hp} : ∀ {d : Dt} {v : V}, Rp K H d v → (v = .non ↔ d = .non) := fun {d v} h => by
  cases d with
  | non => exact ⟨fun _ => rfl, fun _ => h⟩
  | bl b => exact ⟨fun e => (by rw [e] at h; cases h), fun e => (by cases e)⟩
  | int b => exact ⟨fun e => (by rw [e] at h; cases h), fun e => (by cases e)⟩
  | str b => exact ⟨fun e => (by rw [e] at h; cases h), fun e => (by cases e)⟩
  | lst b => exact ⟨fun e => (by obtain ⟨a, _, h, _⟩ := h; rw [e] at h; cases h), fun e => (by cases e)⟩
  | sq b => exact ⟨fun e => (by obtain ⟨a, _, h, _⟩ := h; rw [e] at h; cases h), fun e => (by cases e)⟩
  | tup b => exact ⟨fun e => (by obtain ⟨a, _, h, _⟩ := h; rw [e] at h; cases h), fun e => (by cases e)⟩
  | obj b c d => exact ⟨fun e => (by obtain ⟨a, _, _, h, _⟩ := h; rw [e] at h; cases h), fun e => (by cases e)⟩
  | dic b c => exact ⟨fun e => (by obtain ⟨a, _, h, _⟩ := h; rw [e] at h; cases h), fun e => (by cases e)⟩
theorem om_isN : OM K rNoU (op2 (isNF false)) := om_op2 (f := isNF false) fun H a b d vx vy ha hb e Q q => by
  have hn := Rp.non_iff ha
  unfold isNF at e
  split at e
  · refine ⟨hb, ?_⟩
    split at e
    · cases e
      rw [show decide (vx = V.non) = true from decide_eq_true (hn.mpr rfl)]
      exact q _ fun _ => rfl
    · rename_i hne
      cases e
      rw [show decide (vx = V.non) = false from decide_eq_false fun h => hne (hn.mp h)]
      exact q _ fun _ => rfl
  · cases e
theorem om_notN : OM K rNotNoU (op2 (isNF true)) := om_op2 (f := isNF true) fun H a b d vx vy ha hb e Q q => by
  have hn := Rp.non_iff ha
  unfold isNF at e
  split at e
  · refine ⟨hb, ?_⟩
    split at e
    · cases e
      rw [show decide (vx = V.non) = true from decide_eq_true (hn.mpr rfl)]
      exact q _ fun _ => rfl
    · rename_i hne
      cases e
      rw [show decide (vx = V.non) = false from decide_eq_false fun h => hne (hn.mp h)]
      exact q _ fun _ => rfl
  · cases e
/-- x in a list or tuple of flat things -/
def flD : Dt → Option V
  | .non => some .non
  | .bl b => some (.bl b)
  | .int i => some (.int i)
  | .str s => some (.str s)
  | _ => none
def flA : List Dt → Option (List V)
  | [] => some []
  | d :: ds => match flD d, flA ds with
    | some v, some vs => some (v :: vs)
    | _, _ => none
theorem flD_ok {H : Hp} {d : Dt} {v w : V} (h : Rp K H d v) (e : flD d = some w) : v = w ∧ flatV v = true := by
  unfold flD at e
  split at e <;> first | cases e | skip
  · exact ⟨h, by rw [show v = V.non from h]; rfl⟩
  · rename_i b
    exact ⟨h, by rw [show v = V.bl b from h]; rfl⟩
  · rename_i b
    exact ⟨h, by rw [show v = V.int b from h]; rfl⟩
  · rename_i b
    exact ⟨h, by rw [show v = V.str b from h]; rfl⟩
theorem flA_ok {H : Hp} : ∀ {ds : List Dt} {vs ws : List V}, RpA K H ds vs → flA ds = some ws → vs = ws ∧ vs.all flatV = true
  | [], vs, ws, h, e => by
    cases e
    rw [show vs = [] from h]
    exact ⟨rfl, rfl⟩
  | d :: ds, vs, ws, h, e => by
    obtain ⟨x, r, rfl, h2, h3⟩ := h
    unfold flA at e
    split at e
    · rename_i v us e1 e2
      cases e
      obtain ⟨p1, p2⟩ := flD_ok h2 e1
      obtain ⟨p3, p4⟩ := flA_ok h3 e2
      exact ⟨by rw [p1, p3], by rw [List.all_cons, p2, p4]; rfl⟩
    · cases e
def inF (neg : Bool) : Dt → Dt → Option Dt := fun x y => match flD x, itemsD y with
  | some v, some ds => match flA ds with
    | some vs => some (.bl (if neg then !inV v vs else inV v vs))
    | none => none
  | _, _ => none
theorem items_ok {H : Hp} {d : Dt} {v : V} {ds : List Dt} (h : Rp K H d v) (e : itemsD d = some ds) : ∃ a vs, v = .ref a ∧ (SqL K H a vs ∨ SqT K H a vs) ∧ RpA K H ds vs := by
  cases d with
  | lst xs =>
    cases e
    obtain ⟨a, vs, h1, h2, h3⟩ := h
    exact ⟨a, vs, h1, .inl (sq_of h2), h3⟩
  | sq xs =>
    cases e
    obtain ⟨a, vs, h1, h2, h3⟩ := h
    exact ⟨a, vs, h1, .inl h2, h3⟩
  | tup xs =>
    cases e
    obtain ⟨a, vs, h1, h2, h3⟩ := h
    exact ⟨a, vs, h1, .inr h2, h3⟩
  | _ => cases e
theorem om_in (neg : Bool) : OM K (rIn K neg) (op2 (inF neg)) := om_op2 fun H a b d vx vy ha hb e Q q => by
  unfold inF at e
  split at e
  · rename_i v ds e1 e2
    split at e
    · rename_i vs e3
      cases e
      obtain ⟨p, us, rfl, hs, hr⟩ := items_ok hb e2
      obtain ⟨rfl, f1⟩ := flD_ok ha e1
      obtain ⟨rfl, f2⟩ := flA_ok hr e3
      exact ⟨p, us, rfl, hs, f1, f2, q _ fun _ => rfl⟩
    · cases e
  · cases e

/-! ### + and * -/
def catStr : Dt → Dt → Option Dt
  | .str a, .str b => if a.length + b.length ≤ sizeLine then some (.str (a ++ b)) else none
  | _, _ => none
def addF : Vl → Vl → M Vl := fun x y E => match see E.ce x, see E.ce y with
  | some (.int i), some (.int j) => some (.d (.int (i + j)), E)
  | some (.str a), some (.str b) => if a.length + b.length ≤ sizeLine then some (.d (.str (a ++ b)), E) else none
  | some (.lst a), some (.lst b) => if a.length + b.length ≤ 100000 then newL (a ++ b) E else none
  | some (.tup a), some (.tup b) => if a.length + b.length ≤ 100000 then some (.d (.tup (a ++ b)), E) else none
  | _, _ => none
def rCatS : R2 := fun x y H Q => ∃ i j, x = .str i ∧ y = .str j ∧ i.length + j.length ≤ sizeLine ∧ Q (.str (i ++ j)) H
abbrev rAdd (K : PySem.W.Frag) : R2 := fun x y H Q => rI0 (fun i j => .int (i + j)) x y H Q ∨ rCatS x y H Q ∨ rCat x y H Q ∨ rCatA K x y H Q
theorem op_addU {X : Cx} : OpR X (binaryOp .Add) (rAdd X.K) := op_add.or (OpR.or (r := rCatS) op_add_str (op_cat.or op_catA))
theorem om_add : OM K (rAdd K) addF := fun {μ Hd H σ E x y vx vy z E'} R hx hy e Q q => by
  unfold addF at e
  split at e
  · rename_i i j e1 e2
    cases e
    exact .inl ⟨i, j, see_ok R.wo hx e1, see_ok R.wo hy e2, q μ Hd H _ (Gr.refl μ Hd) R rfl⟩
  · rename_i a b e1 e2
    split at e
    · rename_i hz
      cases e
      exact .inr (.inl ⟨a, b, see_ok R.wo hx e1, see_ok R.wo hy e2, hz, q μ Hd H _ (Gr.refl μ Hd) R rfl⟩)
    · cases e
  · rename_i a b e1 e2
    split at e
    · rename_i hz
      obtain ⟨p1, v1, rfl, h1, r1⟩ := see_lst R.wo hx e1
      obtain ⟨p2, v2, rfl, h2, r2⟩ := see_lst R.wo hy e2
      refine .inr (.inr (.inl ⟨p1, p2, v1, v2, rfl, rfl, h1, h2, by rw [r1.len, r2.len]; exact sz_of hz, fun p hp => ?_⟩))
      obtain ⟨g, R', r'⟩ := newL_ok R (r1.app r2) e hp
      exact q _ _ _ _ g R' r'
    · cases e
  · rename_i a b e1 e2
    split at e
    · rename_i hz
      cases e
      obtain ⟨p1, v1, rfl, h1, r1⟩ := see_tup R.wo hx e1
      obtain ⟨p2, v2, rfl, h2, r2⟩ := see_tup R.wo hy e2
      refine .inr (.inr (.inr ⟨p1, p2, v1, v2, rfl, rfl, h1, h2, by rw [r1.len, r2.len]; exact sz_of hz, fun hn => ?_, fun hn hm => ?_, fun hn hm p hp => ?_⟩))
      · have ea : a = [] := List.eq_nil_of_length_eq_zero (by rw [← r1.len, hn]; rfl)
        subst ea
        have q2 := see_flat hy e2 nofun
        subst q2
        exact q μ Hd H _ (Gr.refl μ Hd) R hy
      · have eb : b = [] := List.eq_nil_of_length_eq_zero (by rw [← r2.len, hm]; rfl)
        subst eb
        have q2 := see_flat hx e1 nofun
        subst q2
        rw [List.append_nil] at q
        exact q μ Hd H _ (Gr.refl μ Hd) R hx
      · obtain ⟨g, R', r'⟩ := tup_ok R (r1.app r2) hp
        exact q _ _ _ _ g R' r'
    · cases e
  · cases e
def mulF : Vl → Vl → M Vl := fun x y E => match see E.ce x, see E.ce y with
  | some (.int i), some (.int j) => if CMul i j then some (.d (.int (i * j)), E) else none
  | some (.lst a), some (.int j) => if -1000 ≤ j ∧ j ≤ 1000 ∧ a.length ≤ 1000 then newL (List.replicate j.toNat a).flatten E else none
  | some (.tup a), some (.int j) => if -1000 ≤ j ∧ j ≤ 1000 ∧ a.length ≤ 1000 ∧ a ≠ [] then some (.d (.tup (List.replicate j.toNat a).flatten), E) else none
  | _, _ => none
abbrev rMulU (K : PySem.W.Frag) : R2 := fun x y H Q => rI CMul (fun i j => .int (i * j)) x y H Q ∨ rRep x y H Q ∨ rRepU K x y H Q
theorem op_mulU {X : Cx} : OpR X (binaryOp .Mult) (rMulU X.K) := op_mul.or (op_rep.or op_repU)
theorem RpA.repl {H : Hp} {ds : List Dt} {vs : List V} (h : RpA K H ds vs) : ∀ n, RpA K H (List.replicate n ds).flatten (List.replicate n vs).flatten
  | 0 => rfl
  | n + 1 => by
    rw [List.replicate_succ, List.replicate_succ, List.flatten_cons, List.flatten_cons]
    exact h.app (RpA.repl h n)
theorem om_mul : OM K (rMulU K) mulF := fun {μ Hd H σ E x y vx vy z E'} R hx hy e Q q => by
  unfold mulF at e
  split at e
  · rename_i i j e1 e2
    split at e
    · rename_i hc
      cases e
      exact .inl ⟨i, j, see_ok R.wo hx e1, see_ok R.wo hy e2, hc, q μ Hd H _ (Gr.refl μ Hd) R rfl⟩
    · cases e
  · rename_i a j e1 e2
    split at e
    · rename_i hz
      obtain ⟨p1, v1, rfl, h1, r1⟩ := see_lst R.wo hx e1
      refine .inr (.inl ⟨p1, j, v1, rfl, see_ok R.wo hy e2, h1, by omega, by omega, ?_, fun p hp => ?_⟩)
      · rw [r1.len, sizeLine_eq]
        have : a.length * j.toNat ≤ 1000 * 1000 := Nat.mul_le_mul hz.2.2 (by omega)
        omega
      · obtain ⟨g, R', r'⟩ := newL_ok R (r1.repl j.toNat) e hp
        exact q _ _ _ _ g R' r'
    · cases e
  · rename_i a j e1 e2
    split at e
    · rename_i hz
      cases e
      obtain ⟨p1, v1, rfl, h1, r1⟩ := see_tup R.wo hx e1
      refine .inr (.inr ⟨p1, j, v1, rfl, see_ok R.wo hy e2, h1, fun hn => hz.2.2.2 (List.eq_nil_of_length_eq_zero (by rw [← r1.len, hn]; rfl)), by omega, by omega, by rw [r1.len]; omega, fun hj => ?_, fun hj p hp => ?_⟩)
      · subst hj
        have q2 := see_flat hx e1 nofun
        subst q2
        rw [show (List.replicate (1 : Int).toNat a).flatten = a by simp] at q
        exact q μ Hd H _ (Gr.refl μ Hd) R hx
      · obtain ⟨g, R', r'⟩ := tup_ok R (r1.repl j.toNat) hp
        exact q _ _ _ _ g R' r'
    · cases e
  · cases e

/-! ### items and slices -/
def ixD : Dt → Dt → Option Dt
  | .lst xs, .int i => atI xs i
  | .sq xs, .int i => atI xs i
  | .tup xs, .int i => atI xs i
  | .str s, .int i => if s.length ≤ sizeLine then (atI s.cps.toList i).map fun c => .str ⟨#[c]⟩ else none
  | _, _ => none
def ixF : Vl → Vl → M Vl := fun x y E => match see E.ce x, see E.ce y with
  | some a, some b => (ixD a b).map fun d => (.d d, E)
  | _, _ => none
theorem atI_ok {H : Hp} {ds : List Dt} {vs : List V} {i : Int} {d : Dt} (h : RpA K H ds vs) (e : atI ds i = some d) : ∃ v, atI vs i = some v ∧ Rp K H d v := by
  unfold atI at e ⊢
  rw [h.len]
  cases q : ixN ds.length i with
  | none =>
    rw [q] at e
    cases e
  | some j =>
    rw [q] at e
    exact RpA.at h e
theorem om_ix : OM K (rIx K) ixF := fun {μ Hd H σ E x y vx vy z E'} R hx hy e Q q => by
  unfold ixF at e
  split at e
  · rename_i a b e1 e2
    cases e3 : ixD a b with
    | none =>
      rw [e3] at e
      cases e
    | some d =>
      rw [e3] at e
      cases e
      unfold ixD at e3
      split at e3
      · rename_i xs i
        obtain ⟨p1, v1, rfl, h1, r1⟩ := see_lst R.wo hx e1
        obtain ⟨v, g1, g2⟩ := atI_ok r1 e3
        exact .inl ⟨p1, v1, i, v, rfl, see_ok R.wo hy e2, sq_of h1, g1, q μ Hd H v (Gr.refl μ Hd) R g2⟩
      · rename_i xs i
        obtain ⟨p1, v1, rfl, h1, r1⟩ := see_sq R.wo hx e1
        obtain ⟨v, g1, g2⟩ := atI_ok r1 e3
        exact .inl ⟨p1, v1, i, v, rfl, see_ok R.wo hy e2, h1, g1, q μ Hd H v (Gr.refl μ Hd) R g2⟩
      · rename_i xs i
        obtain ⟨p1, v1, rfl, h1, r1⟩ := see_tup R.wo hx e1
        obtain ⟨v, g1, g2⟩ := atI_ok r1 e3
        exact .inr (.inl ⟨p1, v1, i, v, rfl, see_ok R.wo hy e2, h1, g1, q μ Hd H v (Gr.refl μ Hd) R g2⟩)
      · rename_i s i
        split at e3
        · rename_i hz
          cases e4 : atI s.cps.toList i with
          | none =>
            rw [e4] at e3
            cases e3
          | some c =>
            rw [e4] at e3
            cases e3
            exact .inr (.inr ⟨s, i, c, see_ok R.wo hx e1, see_ok R.wo hy e2, hz, e4, q μ Hd H _ (Gr.refl μ Hd) R rfl⟩)
        · cases e3
      · cases e3
  · cases e
end
section
variable {X : Cx} {a b c e : Expr} {es : List Expr} {ta tb tc te : TE} {ma mb mc m : M Vl} {pos : Pos} {tes : TA} {mes : M (List Vl)} {lo hi : Option Expr}
theorem xix (ha : Ex_ X a ta ma) (hb : Ex_ X b tb mb) (hs : PlainIx b := by intro _ _; rfl) : Ex_ X (.Subscript a b pos) (tOp (rIx X.K) ta tb) (bindM ma fun x => bindM mb (ixF x)) := ⟨pe_ix ix_seq ha.pe hb.pe hs, em_op om_ix ha.em hb.em⟩
structure Ox (X : Cx) (e : Option Expr) (t : TO) (m : M (Option Int)) : Prop where
  po : PO X e t
  om : ∀ {μ : List Addr} {Hd H : Hp} {σ : L2.St} {E : En} {o : Option Int} {E' : En}, Rl X.K μ Hd H σ E → m E = some (o, E') → ∀ Q : Option Int → Hp → Prop, (∀ μ' Hd' H', Gr μ Hd μ' Hd' → Rl X.K μ' Hd' H' σ E' → Q o H') → t σ H Q
theorem onone : Ox X none tNoPart (retM none) := ⟨po_none, fun {μ Hd H σ E o E'} R e Q q => by
  cases e
  exact q μ Hd H (Gr.refl μ Hd) R⟩
def partM (m : M Vl) : M (Option Int) := bindM m fun r => match r with
  | .d (.int i) => retM (some i)
  | _ => failM
theorem osome (h : Ex_ X e te m) : Ox X (some e) (tPart te) (partM m) := ⟨po_some h.pe, fun {μ Hd H σ E o E'} R e Q q => by
  obtain ⟨r, E1, e1, e2⟩ := bindM_some e
  split at e2
  · rename_i i
    cases e2
    exact h.em R e1 _ fun μ1 Hd1 H1 v g1 R1 r1 => ⟨i, r1, q μ1 Hd1 H1 g1 R1⟩
  · cases e2⟩
def cutD (xs : List Dt) (lo hi : Option Int) : List Dt := (xs.drop (HT.sIx xs.length 0 lo)).take (HT.sIx xs.length xs.length hi - HT.sIx xs.length 0 lo)
theorem cut_ok {K : PySem.W.Frag} {H : Hp} {ds : List Dt} {vs : List V} (h : RpA K H ds vs) (lo hi : Option Int) : RpA K H (cutD ds lo hi) (cutV vs lo hi) := by
  unfold cutD cutV
  rw [h.len]
  exact (h.drop _).take _
theorem cut_all {ds : List Dt} {lo hi : Option Int} (h : HT.sIx ds.length 0 lo = 0 ∧ HT.sIx ds.length ds.length hi = ds.length) : cutD ds lo hi = ds := by
  unfold cutD
  rw [h.1, h.2]
  simp
def slF (x : Vl) (lo hi : Option Int) : M Vl := fun E => match see E.ce x with
  | some (.lst xs) => newL (cutD xs lo hi) E
  | some (.tup xs) => some (.d (.tup (cutD xs lo hi)), E)
  | some (.str s) => if s.length ≤ sizeLine then some (.d (.str (cutS s lo hi)), E) else none
  | _ => none
theorem xsl {p2 : Pos} (ha : Ex_ X a ta ma) {tl th : TO} {ml mh : M (Option Int)} (hl : Ox X lo tl ml) (hh : Ox X hi th mh) :
    Ex_ X (.Subscript a (.Slice lo hi none p2) pos) (tSl (fun x l h H Q => rSlL X.K x l h H Q ∨ rSlA X.K x l h H Q ∨ rSlS x l h H Q) ta tl th) (bindM ma fun x => bindM ml fun l => bindM mh fun h => slF x l h) :=
  ⟨pe_slice (sl_list.or (sl_tupA.or sl_str)) ha.pe hl.po hh.po, fun {μ Hd H σ E z E'} R e Q q => by
    obtain ⟨x, E1, e1, e⟩ := bindM_some e
    obtain ⟨l, E2, e2, e⟩ := bindM_some e
    obtain ⟨h, E3, e3, e⟩ := bindM_some e
    refine ha.em R e1 _ fun μ1 Hd1 H1 v g1 R1 r1 => ?_
    refine hl.om R1 e2 _ fun μ2 Hd2 H2 g2 R2 => ?_
    refine hh.om R2 e3 _ fun μ3 Hd3 H3 g3 R3 => ?_
    have r3 := Rv.gr (g2.trans g3) r1
    have g0 := (g1.trans g2).trans g3
    unfold slF at e
    split at e
    · rename_i xs e4
      obtain ⟨p1, v1, rfl, h1, r4⟩ := see_lst R3.wo r3 e4
      refine .inl ⟨p1, v1, rfl, sq_of h1, fun p hp => ?_⟩
      obtain ⟨g, R', r'⟩ := newL_ok R3 (cut_ok r4 l h) e hp
      exact q _ _ _ _ (g0.trans g) R' r'
    · rename_i xs e4
      cases e
      obtain ⟨p1, v1, rfl, h1, r4⟩ := see_tup R3.wo r3 e4
      refine .inr (.inl ⟨p1, v1, rfl, h1, fun hw => ?_, fun hw p hp => ?_⟩)
      · rw [r4.len] at hw
        rw [cut_all hw] at q
        have q2 := see_flat r3 e4 nofun
        subst q2
        exact q _ _ _ _ g0 R3 r3
      · obtain ⟨g, R', r'⟩ := tup_ok R3 (cut_ok r4 l h) hp
        exact q _ _ _ _ (g0.trans g) R' r'
    · rename_i s e4
      split at e
      · rename_i hz
        cases e
        exact .inr (.inr ⟨s, see_ok R3.wo r3 e4, hz, q _ _ _ _ g0 R3 rfl⟩)
      · cases e
    · cases e⟩
/-! ### calls of built-ins -/
theorem em_cb {K : PySem.W.Frag} {r : List V → Hp → VK → Prop} {f : List Vl → M Vl} {ta : TA} {ma : M (List Vl)} (hf : CM K r f) (ha : AM K ta ma) : EM K (tCB r ta) (bindM ma f) := fun {μ Hd H σ E z E'} R e Q q => by
  obtain ⟨rs, E1, e1, e2⟩ := bindM_some e
  exact ha R e1 _ fun μ1 Hd1 H1 vs g1 R1 r1 => hf R1 r1 e2 Q fun μ2 Hd2 H2 v g2 R2 r2 => q μ2 Hd2 H2 v (g1.trans g2) R2 r2
variable {x : Str} {p : Pos} {id T : String} {r : List V → Hp → VK → Prop} {f : List Vl → M Vl}
theorem xblt (hc : CallR X (.builtin id) r) (hf : CM X.K r f) (hm : X.mg x = none) (hv : bootBuiltins x = some (.builtin id)) (ha : Ax X (e :: es) tes mes) (hg : Gl X x := by rfl) (hn : x ≠ "__name__" := by decide) (hdb : (x == ("__debug__" : Str)) = false := by decide)
    (he : starEach (e :: es) X.env = (false, eval e X.env) :: starEach es X.env := by rfl) (hpl : (backTo pos (starEach es X.env)).any (·.1) = false := by rfl) : Ex_ X (.Call (.Name x p) (e :: es) [] pos) (tCB r tes) (bindM mes f) := ⟨pe_callB hc hg hm hv ha.pa hn hdb he hpl, em_cb hf ha.am⟩
theorem xbty (hc : CallR X (.type T) r) (hf : CM X.K r f) (hm : X.mg x = none) (hv : bootBuiltins x = some (.type T)) (ha : Ax X (e :: es) tes mes) (hg : Gl X x := by rfl) (hn : x ≠ "__name__" := by decide) (hdb : (x == ("__debug__" : Str)) = false := by decide)
    (he : starEach (e :: es) X.env = (false, eval e X.env) :: starEach es X.env := by rfl) (hpl : (backTo pos (starEach es X.env)).any (·.1) = false := by rfl) : Ex_ X (.Call (.Name x p) (e :: es) [] pos) (tCB r tes) (bindM mes f) := ⟨pe_callTy hc hg hm hv ha.pa hn hdb he hpl, em_cb hf ha.am⟩
/-- one value looked at -/
def fn1 (f : Dt → Option Dt) : List Vl → M Vl := fun xs E => match xs with
  | [x] => match see E.ce x with
    | some a => (f a).map fun d => (.d d, E)
    | none => none
  | _ => none
theorem fn1_some {f : Dt → Option Dt} {xs : List Vl} {z : Vl} {E E' : En} (h : fn1 f xs E = some (z, E')) : ∃ x a d, xs = [x] ∧ see E.ce x = some a ∧ f a = some d ∧ z = .d d ∧ E' = E := by
  match xs with
  | [] => cases h
  | [x] =>
    have h : (match see E.ce x with
      | some a => (f a).map fun d => (Vl.d d, E)
      | none => none) = some (z, E') := h
    cases e1 : see E.ce x with
    | none =>
      rw [e1] at h
      cases h
    | some a =>
      rw [e1] at h
      cases q : f a with
      | none =>
        simp [q] at h
      | some d =>
        simp only [q, Option.map_some, Option.some.injEq, Prod.mk.injEq] at h
        obtain ⟨rfl, rfl⟩ := h
        exact ⟨x, a, d, rfl, e1, q, rfl, rfl⟩
  | _ :: _ :: _ => cases h
theorem RvA.one {K : PySem.W.Frag} {μ : List Addr} {Hd : Hp} {x : Vl} {vs : List V} (h : RvA K μ Hd [x] vs) : ∃ v, vs = [v] ∧ Rv K μ Hd x v := by
  cases h with
  | cons h1 t =>
    cases t
    exact ⟨_, rfl, h1⟩
theorem RvA.two {K : PySem.W.Frag} {μ : List Addr} {Hd : Hp} {x y : Vl} {vs : List V} (h : RvA K μ Hd [x, y] vs) : ∃ v w, vs = [v, w] ∧ Rv K μ Hd x v ∧ Rv K μ Hd y w := by
  cases h with
  | cons h1 t =>
    cases t with
    | cons h2 t =>
      cases t
      exact ⟨_, _, rfl, h1, h2⟩
theorem cm_fn1 {K : PySem.W.Frag} {f : Dt → Option Dt} (h : ∀ (H : Hp) (a d : Dt) (v : V), Rp K H a v → f a = some d → ∀ Q : VK, (∀ w, (∀ H', Rp K H' d w) → Q w H) → r [v] H Q) : CM K r (fn1 f) := fun {μ Hd H σ E xs vs z E'} R hx e Q q => by
  obtain ⟨x, a, d, rfl, e1, e2, rfl, rfl⟩ := fn1_some e
  obtain ⟨v, rfl, h1⟩ := hx.one
  exact h H a d v (see_ok R.wo h1 e1) e2 Q fun w hw => q μ Hd H w (Gr.refl μ Hd) R (hw Hd)
def fn2 (f : Dt → Dt → Option Dt) : List Vl → M Vl := fun xs E => match xs with
  | [x, y] => op2 f x y E
  | _ => none
theorem cm_fn2 {K : PySem.W.Frag} {f : Dt → Dt → Option Dt} (h : ∀ (H : Hp) (a b d : Dt) (v w : V), Rp K H a v → Rp K H b w → f a b = some d → ∀ Q : VK, (∀ u, (∀ H', Rp K H' d u) → Q u H) → r [v, w] H Q) : CM K r (fn2 f) := fun {μ Hd H σ E xs vs z E'} R hx e Q q => by
  unfold fn2 at e
  split at e
  · obtain ⟨a, b, d, e1, e2, e3, rfl, rfl⟩ := op2_some e
    obtain ⟨v, w, rfl, h1, h2⟩ := hx.two
    exact h H a b d v w (see_ok R.wo h1 e1) (see_ok R.wo h2 e2) e3 Q fun u hu => q μ Hd H u (Gr.refl μ Hd) R (hu Hd)
  · cases e
def lenD : Dt → Option Dt
  | .str s => if s.length ≤ sizeLine then some (.int (s.length : Int)) else none
  | .lst xs => some (.int (xs.length : Int))
  | .sq xs => some (.int (xs.length : Int))
  | .tup xs => some (.int (xs.length : Int))
  | _ => none
theorem cm_len {K : PySem.W.Frag} : CM K (rLenU K) (fn1 lenD) := cm_fn1 fun H a d v hv e Q q => by
  unfold lenD at e
  split at e
  · rename_i s
    split at e
    · rename_i hz
      cases e
      cases (show v = .str s from hv)
      exact ⟨_, s.length, rfl, ⟨hz, rfl⟩, q _ fun _ => rfl⟩
    · cases e
  · cases e
    obtain ⟨p, vs, rfl, h1, h2⟩ := hv
    exact ⟨_, vs.length, rfl, .inl ⟨vs, sq_of h1, rfl⟩, by rw [h2.len]; exact q _ fun _ => rfl⟩
  · cases e
    obtain ⟨p, vs, rfl, h1, h2⟩ := hv
    exact ⟨_, vs.length, rfl, .inl ⟨vs, h1, rfl⟩, by rw [h2.len]; exact q _ fun _ => rfl⟩
  · cases e
    obtain ⟨p, vs, rfl, h1, h2⟩ := hv
    exact ⟨_, vs.length, rfl, .inr ⟨vs, h1, rfl⟩, by rw [h2.len]; exact q _ fun _ => rfl⟩
  · cases e
theorem xlen (hm : X.mg "len" = none) (ha : Ax X (e :: es) tes mes) (hg : Gl X "len" := by rfl) (he : starEach (e :: es) X.env = (false, eval e X.env) :: starEach es X.env := by rfl) (hpl : (backTo pos (starEach es X.env)).any (·.1) = false := by rfl) :
    Ex_ X (.Call (.Name "len" p) (e :: es) [] pos) (tCB (rLenU X.K) tes) (bindM mes (fn1 lenD)) := xblt call_lenU cm_len hm PySem.boot_len ha hg (by decide) (by decide) he hpl
def absD : Dt → Option Dt
  | .int i => some (.int (if i < 0 then -i else i))
  | _ => none
theorem cm_abs {K : PySem.W.Frag} : CM K rAbsU (fn1 absD) := cm_fn1 fun H a d v hv e Q q => by
  unfold absD at e
  split at e
  · rename_i i
    cases e
    cases (show v = .int i from hv)
    exact ⟨i, rfl, q _ fun _ => rfl⟩
  · cases e
def intD : Dt → Option Dt
  | .int i => some (.int i)
  | .bl b => some (.int (if b then 1 else 0))
  | _ => none
theorem cm_int {K : PySem.W.Frag} : CM K rIntU (fn1 intD) := cm_fn1 fun H a d v hv e Q q => by
  unfold intD at e
  split at e
  · rename_i i
    cases e
    cases (show v = .int i from hv)
    exact .inl ⟨i, rfl, q _ fun _ => rfl⟩
  · rename_i b
    cases e
    cases (show v = .bl b from hv)
    exact .inr ⟨b, rfl, q _ fun _ => rfl⟩
  · cases e
abbrev minD := intF fun i j => some (.int (if j < i then j else i))
abbrev maxD := intF fun i j => some (.int (if j > i then j else i))
theorem cm_min2 {K : PySem.W.Frag} : CM K rMinU (fn2 minD) := cm_fn2 fun H a b d v w hv hw e Q q => by
  obtain ⟨i, j, rfl, rfl, e⟩ := intF_some e
  cases e
  cases (show v = .int i from hv)
  cases (show w = .int j from hw)
  exact ⟨i, j, rfl, q _ fun _ => rfl⟩
theorem cm_max2 {K : PySem.W.Frag} : CM K rMaxU (fn2 maxD) := cm_fn2 fun H a b d v w hv hw e Q q => by
  obtain ⟨i, j, rfl, rfl, e⟩ := intF_some e
  cases e
  cases (show v = .int i from hv)
  cases (show w = .int j from hw)
  exact ⟨i, j, rfl, q _ fun _ => rfl⟩
def blsD : List Dt → Option (List Bool)
  | [] => some []
  | .bl b :: ds => (blsD ds).map (b :: ·)
  | _ => none
theorem bls_ok {K : PySem.W.Frag} {H : Hp} : ∀ {ds : List Dt} {vs : List V} {bs : List Bool}, RpA K H ds vs → blsD ds = some bs → vs = bs.map V.bl
  | [], vs, bs, h, e => by
    cases e
    exact h
  | .bl b :: ds, vs, bs, h, e => by
    obtain ⟨x, r, rfl, h2, h3⟩ := h
    have e : (blsD ds).map (b :: ·) = some bs := e
    cases q : blsD ds with
    | none =>
      rw [q] at e
      cases e
    | some cs =>
      rw [q] at e
      cases e
      rw [show x = V.bl b from h2, bls_ok h3 q]
      rfl
  | .non :: _, _, _, _, e => by cases e
  | .int _ :: _, _, _, _, e => by cases e
  | .str _ :: _, _, _, _, e => by cases e
  | .lst _ :: _, _, _, _, e => by cases e
  | .sq _ :: _, _, _, _, e => by cases e
  | .tup _ :: _, _, _, _, e => by cases e
  | .obj _ _ _ :: _, _, _, _, e => by cases e
  | .dic _ _ :: _, _, _, _, e => by cases e
def allD : Dt → Option Dt
  | .lst xs => (blsD xs).map fun bs => .bl (bs.all fun b => b)
  | _ => none
def anyD : Dt → Option Dt
  | .lst xs => (blsD xs).map fun bs => .bl (bs.any fun b => b)
  | _ => none
theorem cm_all {K : PySem.W.Frag} : CM K (rAll K) (fn1 allD) := cm_fn1 fun H a d v hv e Q q => by
  unfold allD at e
  split at e
  · rename_i xs
    cases e1 : blsD xs with
    | none =>
      rw [e1] at e
      cases e
    | some bs =>
      rw [e1] at e
      cases e
      obtain ⟨p, vs, rfl, h1, h2⟩ := hv
      have := bls_ok h2 e1
      subst this
      exact ⟨p, bs, rfl, sq_of h1, q _ fun _ => rfl⟩
  · cases e
theorem cm_any {K : PySem.W.Frag} : CM K (rAny K) (fn1 anyD) := cm_fn1 fun H a d v hv e Q q => by
  unfold anyD at e
  split at e
  · rename_i xs
    cases e1 : blsD xs with
    | none =>
      rw [e1] at e
      cases e
    | some bs =>
      rw [e1] at e
      cases e
      obtain ⟨p, vs, rfl, h1, h2⟩ := hv
      have := bls_ok h2 e1
      subst this
      exact ⟨p, bs, rfl, sq_of h1, q _ fun _ => rfl⟩
  · cases e
/-- list(x), tuple(x): x a list or a tuple -/
def listF : List Vl → M Vl := fun xs E => match xs with
  | [x] => match (see E.ce x).bind itemsD with
    | some ds => newL ds E
    | none => none
  | _ => none
theorem see_items {K : PySem.W.Frag} {μ : List Addr} {Hd H : Hp} {ce : List Ce} {r : Vl} {v : V} {ds : List Dt} (w : Wo K μ Hd H ce) (hv : Rv K μ Hd r v) (h : (see ce r).bind itemsD = some ds) : ∃ a vs, v = .ref a ∧ (SqL K H a vs ∨ SqT K H a vs) ∧ RpA K Hd ds vs := by
  cases q : see ce r with
  | none =>
    rw [q] at h
    cases h
  | some d =>
    rw [q] at h
    cases d with
    | lst xs =>
      cases h
      obtain ⟨a, vs, h1, h2, h3⟩ := see_lst w hv q
      exact ⟨a, vs, h1, .inl (sq_of h2), h3⟩
    | sq xs =>
      cases h
      obtain ⟨a, vs, h1, h2, h3⟩ := see_sq w hv q
      exact ⟨a, vs, h1, .inl h2, h3⟩
    | tup xs =>
      cases h
      obtain ⟨a, vs, h1, h2, h3⟩ := see_tup w hv q
      exact ⟨a, vs, h1, .inr h2, h3⟩
    | _ => cases h
theorem cm_list {K : PySem.W.Frag} : CM K (rListU K) listF := fun {μ Hd H σ E xs vs z E'} R hx e Q q => by
  unfold listF at e
  split at e
  · rename_i x
    split at e
    · rename_i ds e1
      obtain ⟨v, rfl, h1⟩ := hx.one
      obtain ⟨a, us, rfl, h2, h3⟩ := see_items R.wo h1 e1
      refine ⟨a, us, rfl, h2, fun l hl => ?_⟩
      obtain ⟨g, R', r'⟩ := newL_ok R h3 e hl
      exact q _ _ _ _ g R' r'
    · cases e
  · cases e
def tupleF : List Vl → M Vl := fun xs E => match xs with
  | [x] => match (see E.ce x).bind itemsD with
    | some ds => some (.d (.tup ds), E)
    | none => none
  | _ => none
theorem cm_tuple {K : PySem.W.Frag} : CM K (rTupU K) tupleF := fun {μ Hd H σ E xs vs z E'} R hx e Q q => by
  unfold tupleF at e
  split at e
  · rename_i x
    split at e
    · rename_i ds e1
      cases e
      obtain ⟨v, rfl, h1⟩ := hx.one
      cases q1 : see E.ce x with
      | none =>
        rw [q1] at e1
        cases e1
      | some d =>
        rw [q1] at e1
        cases d with
        | lst ys =>
          cases e1
          obtain ⟨a, us, rfl, h2, h3⟩ := see_lst R.wo h1 q1
          refine ⟨a, us, rfl, .inl ⟨sq_of h2, fun l hl => ?_⟩⟩
          obtain ⟨g, R', r'⟩ := tup_ok R h3 hl
          exact q _ _ _ _ g R' r'
        | sq ys =>
          cases e1
          obtain ⟨a, us, rfl, h2, h3⟩ := see_sq R.wo h1 q1
          refine ⟨a, us, rfl, .inl ⟨h2, fun l hl => ?_⟩⟩
          obtain ⟨g, R', r'⟩ := tup_ok R h3 hl
          exact q _ _ _ _ g R' r'
        | tup ys =>
          cases e1
          obtain ⟨a, us, rfl, h2, h3⟩ := see_tup R.wo h1 q1
          have q2 := see_flat h1 q1 nofun
          subst q2
          exact ⟨a, us, rfl, .inr ⟨h2, q μ Hd H _ (Gr.refl μ Hd) R h1⟩⟩
        | _ => cases e1
    · cases e
  · cases e
end
end Hk
/-! Hk5: comprehensions, a list's methods, isinstance. -/
namespace Hk
open PySem PySem.Spec PyProof.Rows L2 Evl

/-! ### slots forgotten and brought back -/
def wipeO (sl : List (Option Vl)) : List Nat → List (Option Vl)
  | [] => sl
  | v :: vs => (wipeO sl vs).set v none
def wipeE (vs : List Nat) (E : En) : En := ⟨wipeO E.sl vs, E.ce⟩
def bring (sl0 sl : List (Option Vl)) : List Nat → List (Option Vl)
  | [] => sl
  | v :: vs => (bring sl0 sl vs).set v (sl0[v]?.getD none)
section
variable {K : PySem.W.Frag} {μ : List Addr} {Hd H : Hp} {σ : L2.St}
theorem Sl.wipe {sl : List (Option Vl)} (h : Sl K μ Hd σ sl) : ∀ vs : List Nat, Sl K μ Hd (L2.wipe σ vs) (wipeO sl vs)
  | [] => h
  | v :: vs => (Sl.wipe h vs).wipe1 v
theorem wipeO_len (sl : List (Option Vl)) : ∀ vs : List Nat, (wipeO sl vs).length = sl.length
  | [] => rfl
  | v :: vs => by
    unfold wipeO
    rw [List.length_set, wipeO_len sl vs]
theorem bring_len (sl0 sl : List (Option Vl)) : ∀ vs : List Nat, (bring sl0 sl vs).length = sl.length
  | [] => rfl
  | v :: vs => by
    unfold bring
    rw [List.length_set, bring_len sl0 sl vs]
theorem wipe_out {i : Nat} : ∀ {vs : List Nat}, i ∉ vs → (L2.wipe σ vs)[i]? = σ[i]?
  | [], _ => rfl
  | v :: vs, h => by
    unfold L2.wipe
    rw [List.getElem?_set_ne (fun e => h (by rw [e]; exact List.mem_cons_self)), wipe_out fun m => h (List.mem_cons_of_mem _ m)]
theorem wipeO_out {sl : List (Option Vl)} {i : Nat} : ∀ {vs : List Nat}, i ∉ vs → (wipeO sl vs)[i]? = sl[i]?
  | [], _ => rfl
  | v :: vs, h => by
    unfold wipeO
    rw [List.getElem?_set_ne (fun e => h (by rw [e]; exact List.mem_cons_self)), wipeO_out fun m => h (List.mem_cons_of_mem _ m)]
theorem bring_out {sl0 sl : List (Option Vl)} {i : Nat} : ∀ {vs : List Nat}, i ∉ vs → (bring sl0 sl vs)[i]? = sl[i]?
  | [], _ => rfl
  | v :: vs, h => by
    unfold bring
    rw [List.getElem?_set_ne (fun e => h (by rw [e]; exact List.mem_cons_self)), bring_out fun m => h (List.mem_cons_of_mem _ m)]
theorem bring_in {sl0 sl : List (Option Vl)} {i : Nat} {r : Vl} : ∀ {vs : List Nat}, i ∈ vs → (bring sl0 sl vs)[i]? = some (some r) → sl0[i]? = some (some r)
  | v :: vs, hm, h => by
    unfold bring at h
    rw [List.getElem?_set] at h
    by_cases hv : v = i
    · subst hv
      rw [if_pos rfl] at h
      split at h
      · have h := Option.some.inj h
        cases q : sl0[v]? with
        | none =>
          rw [q] at h
          cases h
        | some o =>
          rw [q] at h
          have h : o = some r := h
          rw [h]
      · cases h
    · rw [if_neg hv] at h
      rcases List.mem_cons.mp hm with e | hm
      · exact absurd e.symm hv
      · exact bring_in hm h
theorem Sl.bring {sl0 sl : List (Option Vl)} {vs : List Nat} (h0 : Sl K μ Hd σ sl0) (h : Sl K μ Hd (L2.wipe σ vs) (wipeO sl vs)) : Sl K μ Hd σ (bring sl0 sl vs) := by
  refine ⟨by rw [bring_len, ← wipeO_len sl vs, ← h.1, L2.wipe_length], fun i r e => ?_⟩
  by_cases hm : i ∈ vs
  · exact h0.2 i r (bring_in hm e)
  · rw [bring_out hm] at e
    obtain ⟨v, h1, h2⟩ := h.2 i r (by rw [wipeO_out hm]; exact e)
    exact ⟨v, by rw [wipe_out hm] at h1; exact h1, h2⟩
end
/-- a target that stores to those slots alone -/
def GcM (K : PySem.W.Frag) (vs : List Nat) (g : TG) (f : Vl → En → Option En) : Prop := ∀ {μ : List Addr} {Hd H : Hp} {σ : L2.St} {E E' : En} {r : Vl} {v : V}, Rl K μ Hd H σ E → Rv K μ Hd r v → f r E = some E' → ∀ Q : L2.St → Hp → Prop,
  (∀ μ' Hd' H' σ', Gr μ Hd μ' Hd' → Rl K μ' Hd' H' σ' E' → L2.wipe σ' vs = L2.wipe σ vs → Q σ' H') → g v σ H Q
theorem wipe_set {σ : L2.St} {o : Option V} {i : Nat} : ∀ {vs : List Nat}, i ∈ vs → L2.wipe (σ.set i o) vs = L2.wipe σ vs
  | v :: vs, hm => by
    unfold L2.wipe
    by_cases hv : v = i
    · subst hv
      by_cases h2 : v ∈ vs
      · rw [wipe_set h2]
      · have : ∀ (us : List Nat), v ∉ us → (L2.wipe (σ.set v o) us) = (L2.wipe σ us).set v o := by
          intro us
          induction us with
          | nil => intro _; rfl
          | cons u us ih =>
            intro hu
            unfold L2.wipe
            rw [ih fun m => hu (List.mem_cons_of_mem _ m), List.set_comm _ _ (fun e => hu (by rw [e]; exact List.mem_cons_self))]
        rw [this vs h2, List.set_set]
    · rcases List.mem_cons.mp hm with e | hm
      · exact absurd e.symm hv
      · rw [wipe_set hm]
theorem gcm_name {K : PySem.W.Frag} {i : Nat} {vs : List Nat} (hi : i ∈ vs) : GcM K vs (gName i) (nameG i) := fun {μ Hd H σ E E' r v} R h e Q q => by
  cases e
  exact q μ Hd H _ (Gr.refl μ Hd) (R.setE i h) (wipe_set hi)
def GcsM (K : PySem.W.Frag) (us : List Nat) (t : TGs) (gs : List (Vl → En → Option En)) : Prop := ∀ {μ : List Addr} {Hd H : Hp} {σ : L2.St} {E E' : En} {ds : List Dt} {vs : List V}, Rl K μ Hd H σ E → RpA K Hd ds vs → gsL gs ds E = some E' → ∀ Q : L2.St → Hp → Prop,
  (∀ μ' Hd' H' σ', Gr μ Hd μ' Hd' → Rl K μ' Hd' H' σ' E' → L2.wipe σ' us = L2.wipe σ us → Q σ' H') → t vs σ H Q
theorem gcsm_nil {K : PySem.W.Frag} {us : List Nat} : GcsM K us gNil [] := fun {μ Hd H σ E E' ds vs} R h e Q q => by
  cases ds with
  | nil =>
    cases e
    exact ⟨h, q μ Hd H σ (Gr.refl μ Hd) R rfl⟩
  | cons d ds => cases e
theorem gcsm_cons {K : PySem.W.Frag} {us : List Nat} {t : TG} {u : TGs} {g : Vl → En → Option En} {gs : List (Vl → En → Option En)} (h1 : GcM K us t g) (h2 : GcsM K us u gs) : GcsM K us (gCons t u) (g :: gs) := fun {μ Hd H σ E E' ds vs} R h e Q q => by
  cases ds with
  | nil => cases e
  | cons d ds =>
    unfold gsL at e
    cases q1 : g (.d d) E with
    | none =>
      rw [q1] at e
      cases e
    | some E1 =>
      rw [q1] at e
      obtain ⟨x, r, rfl, p1, p2⟩ := h
      refine ⟨x, r, rfl, h1 R (r := .d d) p1 q1 _ fun μ1 Hd1 H1 σ1 g1 R1 w1 => ?_⟩
      exact h2 R1 (RpA.ex g1.ex _ _ p2) e Q fun μ2 Hd2 H2 σ2 g2 R2 w2 => q μ2 Hd2 H2 σ2 (g1.trans g2) R2 (w2.trans w1)
theorem gcm_tup {K : PySem.W.Frag} {us : List Nat} {t : TGs} {gs : List (Vl → En → Option En)} {n : Nat} (hn : gs.length = n) (h : GcsM K us t gs) : GcM K us (gTup K n t) (tupG gs) := fun {μ Hd H σ E E' r v} R hv e Q q => by
  unfold tupG at e
  split at e
  · rename_i ds
    obtain ⟨a, vs, rfl, h2, h3⟩ := hv
    exact ⟨a, vs, rfl, ex_t R.wo.ex h2, by rw [h3.len, gsL_len e, hn], h R h3 e Q q⟩
  · cases e
theorem wipe_wipe {σ : L2.St} {vs : List Nat} : L2.wipe (L2.wipe σ vs) vs = L2.wipe σ vs := by
  have h : ∀ us : List Nat, (∀ u ∈ us, u ∈ vs) → L2.wipe (L2.wipe σ us) vs = L2.wipe σ vs := by
    intro us
    induction us with
    | nil => intro _; rfl
    | cons u us ih =>
      intro hu
      show L2.wipe ((L2.wipe σ us).set u none) vs = _
      rw [wipe_set (hu u List.mem_cons_self)]
      exact ih fun x hx => hu x (List.mem_cons_of_mem _ hx)
  exact h vs fun _ h => h
/-! ### [e for x in xs if t] -/
def compL (own : List Nat) (k : Nat) (g : Vl → En → Option En) (t : M Bool) (m : M Vl) : List Dt → En → Option En
  | [], E => some E
  | d :: ds, E => match g (.d d) (wipeE own E) with
    | some E1 => match t E1 with
      | some (true, E2) => match bindM m fzM E2 with
        | some (x, E4) => match E4.ce[k]? with
          | some (.lst acc) => if acc.length < 100000 then compL own k g t m ds ⟨E4.sl, E4.ce.set k (.lst (acc ++ [x]))⟩ else none
          | _ => none
        | none => none
      | some (false, E2) => compL own k g t m ds E2
      | none => none
    | none => none
def compM (own : List Nat) (i : M (List Dt)) (g : Vl → En → Option En) (t : M Bool) (m : M Vl) : M Vl := fun E => match i E with
  | some (ds, E1) => match compL own E1.ce.length g t m ds ⟨E1.sl, E1.ce ++ [.lst []]⟩ with
    | some E2 => some (.c E1.ce.length, ⟨bring E1.sl E2.sl own, E2.ce⟩)
    | none => none
  | none => none
theorem em_comp {K : PySem.W.Frag} {own : List Nat} {wi : TI} {mi : M (List Dt)} {g : TG} {gm : Vl → En → Option En} {tt : TT} {mt : M Bool} {te : TE} {m : M Vl} (hi : IM K wi mi) (hg : GcM K own g gm) (ht : TM K tt mt) (he : EM K te m) : EM K (tLc wi g tt te own) (compM own mi gm mt m) := fun {μ Hd H σ E r E'} R e Q q => by
  unfold compM at e
  cases q1 : mi E with
  | none =>
    rw [q1] at e
    cases e
  | some p =>
    obtain ⟨ds, E1⟩ := p
    rw [q1] at e
    have e : (match compL own E1.ce.length gm mt m ds ⟨E1.sl, E1.ce ++ [.lst []]⟩ with
    | some E2 => some (Vl.c E1.ce.length, (⟨bring E1.sl E2.sl own, E2.ce⟩ : En))
    | none => none) = some (r, E') := e
    cases q2 : compL own E1.ce.length gm mt m ds ⟨E1.sl, E1.ce ++ [.lst []]⟩ with
    | none =>
      rw [q2] at e
      cases e
    | some E2 =>
      rw [q2] at e
      cases e
      refine hi R q1 _ fun μ1 Hd1 H1 J g1 R1 sv D hD => ?_
      obtain ⟨g2, R2, r2⟩ := R1.newC (xs := []) (vs := []) hD rfl
      have hk : (μ1 ++ [D])[E1.ce.length]? = some D := by
        rw [← R1.wo.len]
        simp
      refine ⟨fun i k H' => ∃ μ' Hd' E', Gr (μ1 ++ [D]) Hd1 μ' Hd' ∧ Rl K μ' Hd' H' (L2.wipe σ own) (wipeE own E') ∧ k = ds.length - i ∧ compL own E1.ce.length gm mt m (ds.drop i) E' = some E2,
        ⟨_, μ1 ++ [D], Hd1, ⟨E1.sl, E1.ce ++ [Ce.lst []]⟩, Gr.refl _ _, ⟨R2.wo, R2.sl.wipe own⟩, rfl, q2⟩, fun i k H' hw => ?_⟩
      obtain ⟨μ', Hd', E3, g3, R3, ek, q3⟩ := hw
      cases hd : ds.drop i with
      | nil =>
        rw [hd] at q3
        cases q3
        have hl : ds.length ≤ i := by
          have := congrArg List.length hd
          rw [List.length_drop] at this
          simp at this
          omega
        refine .inl ⟨(sv Hd' H' i g3.ex R3.wo.ex).1 hl, q μ' Hd' H' _ ((g1.trans g2).trans g3) ⟨R3.wo, ?_⟩ ⟨D, g3.pre _ _ hk, rfl⟩⟩
        exact Sl.bring ((R1.sl.gr g2).gr g3) R3.sl
      | cons x rest =>
        rw [hd] at q3
        obtain ⟨hx, hr⟩ := drop_cons hd
        have hl : i < ds.length := (List.getElem?_eq_some_iff.mp hx).1
        obtain ⟨s1, s2⟩ := sv.new R3 g3.ex hx
        refine .inr ⟨s1, fun H2 => ∃ m', m' < k ∧ ∃ μ2 Hd2 E4, Gr (μ1 ++ [D]) Hd1 μ2 Hd2 ∧ Rl K μ2 Hd2 H2 (L2.wipe σ own) (wipeE own E4) ∧ m' = ds.length - (i + 1) ∧ compL own E1.ce.length gm mt m (ds.drop (i + 1)) E4 = some E2, fun _ h => h, fun v H3 hy => ?_⟩
        obtain ⟨Hd4, g4, R4, r4⟩ := s2 v H3 hy
        unfold compL at q3
        cases q4 : gm (.d x) (wipeE own E3) with
        | none =>
          rw [q4] at q3
          cases q3
        | some E5 =>
          rw [q4] at q3
          refine hg R4 (r := .d x) r4 q4 _ fun μ5 Hd5 H5 σ5 g5 R5 w5 => ⟨w5.trans (by rw [wipe_wipe]), ?_⟩
          have gg := (g3.trans g4).trans g5
          cases q5 : mt E5 with
          | none =>
            simp only [q5] at q3
            cases q3
          | some p =>
            obtain ⟨b, E6⟩ := p
            simp only [q5] at q3
            refine ht R5 q5 _ fun μ6 Hd6 H6 g6 R6 => ?_
            cases b with
            | false =>
              show ∃ m', _
              refine ⟨ds.length - (i + 1), by omega, μ6, Hd6, E6, gg.trans g6, ⟨R6.wo, ?_⟩, rfl, by rw [hr]; exact q3⟩
              have := R6.sl.wipe own
              rw [w5, wipe_wipe] at this
              exact this
            | true =>
              show te σ5 H6 _
              cases q6 : bindM m fzM E6 with
              | none =>
                simp only [q6] at q3
                cases q3
              | some p =>
                obtain ⟨y, E7⟩ := p
                simp only [q6] at q3
                obtain ⟨z, E8, e8, e9⟩ := bindM_some q6
                cases q7 : E7.ce[E1.ce.length]? with
                | none =>
                  simp only [q7] at q3
                  cases q3
                | some c =>
                  cases c with
                  | dead =>
                    simp only [q7] at q3
                    cases q3
                  | pin o =>
                    simp only [q7] at q3
                    cases q3
                  | lst acc =>
                    simp only [q7] at q3
                    split at q3
                    · rename_i hz
                      refine he R6 e8 _ fun μ7 Hd7 H7 w g7 R7 r7 => ?_
                      obtain ⟨Hd8, g8, R8, r8⟩ := fzM_ok R7 r7 e9
                      have gall := ((gg.trans g6).trans g7).trans g8
                      have hD8 := gall.pre _ _ hk
                      obtain ⟨c1, vs, c2, c3⟩ := R8.wo.at_ _ _ _ q7 hD8
                      refine ⟨vs, c2, by rw [c3.len]; exact sz_lt hz, ds.length - (i + 1), by omega, μ7, Hd8, _, gall, ⟨?_, ?_⟩, rfl, by rw [hr]; exact q3⟩
                      · exact (R8.setC q7 hD8 (c3.app (RpA.one r8))).wo
                      · have := R8.sl.wipe own
                        rw [w5, wipe_wipe] at this
                        exact this
                    · cases q3
section
variable {X : Cx} {elt tg iter e a o : Expr} {es ifs : List Expr} {te ta to : TE} {m ma mo : M Vl} {tes : TA} {mes : M (List Vl)} {pos apos cpos : Pos} {name : Str}
structure Px (X : Cx) (ifs : List Expr) (tt : TT) (m : M Bool) : Prop where
  pt : PTs X ifs tt
  tm : TM X.K tt m
theorem pnil : Px X [] tYes (retM true) := ⟨pts_nil, fun {μ Hd H σ E b E'} R e Q q => by
  cases e
  exact q μ Hd H (Gr.refl μ Hd) R⟩
theorem pone {tt : TT} {mt : M Bool} (h : Tx X a tt mt) : Px X [a] tt mt := ⟨pts_one h.pt, h.tm⟩
structure Gc (X : Cx) (own : List Nat) (tg : Expr) (g : TG) (f : Vl → En → Option En) : Prop where
  pg : PG X tg g
  gm : GcM X.K own g f
theorem gcname (i : Nat) {x : Str} {vs : List Nat} (hm : i ∈ vs) (hN : X.N.Nodup) (hi : X.N[i]? = some x := by rfl) (hx : Loc X.env.scope x := by first | exact Or.inl rfl | exact Or.inr rfl) (hf : X.fn x = true ∨ X.env.scope.names.lookup x = some .local := by first | exact .inl rfl | exact .inr rfl) :
    Gc X vs (.Name x pos) (gName i) (nameG i) := ⟨pg_name hN hi hx hf, gcm_name hm⟩
theorem xcomp {scope : Scope} {own : List (Str × Nat)} {wi : TI} {mi : M (List Dt)} {g : TG} {gm : Vl → En → Option En} {tt : TT} {mt : M Bool} (hc : X.calm = true) (hN : X.N.Nodup) (hi : Ix_ X tg iter wi mi) (ok : BlkOk X.N X.env.scope scope own)
    (hg : ∀ (s : Shared) (H : Hp) (C : Addr) (cl : List (Str × Addr)) (fp : List Addr), Gc (X.blk s H scope (compEnvC scope cl C X.env) fp) (own.map (·.2)) tg g gm)
    (ht : ∀ (s : Shared) (H : Hp) (C : Addr) (cl : List (Str × Addr)) (fp : List Addr), Px (X.blk s H scope (compEnvC scope cl C X.env) fp) ifs tt mt)
    (he : ∀ (s : Shared) (H : Hp) (C : Addr) (cl : List (Str × Addr)) (fp : List Addr), Ex_ (X.blk s H scope (compEnvC scope cl C X.env) fp) elt te m) (hs : ∀ x, foldedSetIterable iter X.env x = pure x := by intro _; rfl) :
    Ex_ X (.ListComp elt [⟨tg, iter, ifs, 0⟩] scope pos) (tLc wi g tt te (own.map (·.2))) (compM (own.map (·.2)) mi gm mt m) :=
  ⟨pe_lc hc hN hi.pi ok (fun s H C cl fp => (hg s H C cl fp).pg) (fun s H C cl fp => (ht s H C cl fp).pt) (fun s H C cl fp => (he s H C cl fp).pe) hs,
   em_comp hi.im (hg X.s_0 X.H_0 0 [] []).gm (ht X.s_0 X.H_0 0 [] []).tm (he X.s_0 X.H_0 0 [] []).em⟩
/-- name = [..] -/
theorem ssetC (i : Nat) {y : Str} {py spos : Pos} {scope : Scope} {own : List (Str × Nat)} {wi : TI} {mi : M (List Dt)} {g : TG} {gm : Vl → En → Option En} {tt : TT} {mt : M Bool} (hc : X.calm = true) (hN : X.N.Nodup) (hy : X.N[i]? = some y) (hyl : X.env.scope.names.lookup y = some .local)
    (hsw : swapsWith (.ListComp elt [⟨tg, iter, ifs, 0⟩] scope pos) (some (.Name y py)) spos.line X.env = pure true) (hi : Ix_ X tg iter wi mi) (ok : BlkOk X.N X.env.scope scope own)
    (hg : ∀ (s : Shared) (H : Hp) (C : Addr) (cl : List (Str × Addr)) (fp : List Addr), Gc (X.blk s H scope (compEnvC scope cl C X.env) fp) (own.map (·.2)) tg g gm)
    (ht : ∀ (s : Shared) (H : Hp) (C : Addr) (cl : List (Str × Addr)) (fp : List Addr), Px (X.blk s H scope (compEnvC scope cl C X.env) fp) ifs tt mt)
    (he : ∀ (s : Shared) (H : Hp) (C : Addr) (cl : List (Str × Addr)) (fp : List Addr), Ex_ (X.blk s H scope (compEnvC scope cl C X.env) fp) elt te m) (hs : ∀ x, foldedSetIterable iter X.env x = pure x := by intro _; rfl) :
    Sx X (.Assign [.Name y py] (.ListComp elt [⟨tg, iter, ifs, 0⟩] scope pos) spos) (tAsg (tLc wi g tt te (own.map (·.2))) (gName i)) (setS i (compM (own.map (·.2)) mi gm mt m)) :=
  ⟨ps_setLc hc hN hy hyl hsw hi.pi ok (fun s H C cl fp => (hg s H C cl fp).pg) (fun s H C cl fp => (ht s H C cl fp).pt) (fun s H C cl fp => (he s H C cl fp).pe) hs,
   sm_set i (em_comp hi.im (hg X.s_0 X.H_0 0 [] []).gm (ht X.s_0 X.H_0 0 [] []).tm (he X.s_0 X.H_0 0 [] []).em)⟩
/-- a list is data from here on -/
def fzV (m : M Vl) : M Vl := bindM (bindM m fzM) fun d => retM (.d d)
theorem xfz (h : Ex_ X e te m) : Ex_ X e te (fzV m) := ⟨h.pe, fun {μ Hd H σ E r E'} R q Q k => by
  obtain ⟨d, E1, e1, e2⟩ := bindM_some q
  obtain ⟨r0, E2, e3, e4⟩ := bindM_some e1
  cases e2
  exact h.em R e3 _ fun μ1 Hd1 H1 v g1 R1 r1 => by
    obtain ⟨Hd2, g2, R2, r2⟩ := fzM_ok R1 r1 e4
    exact k μ1 Hd2 H1 v (g1.trans g2) R2 r2⟩
/-! ### methods of a list, of a text -/
def tyB (T : String) : Dt → Bool
  | .lst _ => T == "list"
  | .str _ => T == "str"
  | _ => false
theorem tyB_ok {K : PySem.W.Frag} {H : Hp} {T : String} {d : Dt} {v : V} (h : Rp K H d v) (e : tyB T d = true) : tyV K T v H := by
  unfold tyB at e
  split at e
  · obtain ⟨a, xs, rfl, h2, _⟩ := h
    exact .inl ⟨by simpa using e, xs, sq_of h2⟩
  · rename_i s
    cases (show v = .str s from h)
    exact (by simpa using e : T = "str")
  · cases e
def bmM (T : String) (mo : M Vl) (ma : M (List Vl)) (f : Vl → List Vl → M Vl) : M Vl := bindM mo fun x => fun E => match see E.ce x with
  | some d => if tyB T d = true then (bindM ma fun xs => f x xs) E else none
  | none => none
theorem em_bm {K : PySem.W.Frag} {T : String} {r : V → List V → Hp → VK → Prop} {f : Vl → List Vl → M Vl} {ta : TA} {ma : M (List Vl)} (ho : EM K to mo) (ha : AM K ta ma) (hf : MM K T r f) : EM K (tBM K T r to ta) (bmM T mo ma f) := fun {μ Hd H σ E z E'} R e Q q => by
  obtain ⟨x, E1, e1, e2⟩ := bindM_some e
  split at e2
  · rename_i d e3
    split at e2
    · rename_i e4
      obtain ⟨xs, E2, e5, e6⟩ := bindM_some e2
      refine ho R e1 _ fun μ1 Hd1 H1 v g1 R1 r1 => ⟨tyB_ok (see_ok R1.wo r1 e3) e4, ?_⟩
      refine ha R1 e5 _ fun μ2 Hd2 H2 vs g2 R2 r2 => ?_
      exact hf R2 (Rv.gr g2 r1) r2 e6 Q fun μ3 Hd3 H3 w g3 R3 r3 => q μ3 Hd3 H3 w ((g1.trans g2).trans g3) R3 r3
    · cases e2
  · cases e2
theorem em_bm0 {K : PySem.W.Frag} {T : String} {r : V → List V → Hp → VK → Prop} {f : Vl → List Vl → M Vl} (ho : EM K to mo) (hf : MM K T r f) : EM K (tBM0 K T r to) (bmM T mo (retM []) f) := fun {μ Hd H σ E z E'} R e Q q => by
  obtain ⟨x, E1, e1, e2⟩ := bindM_some e
  split at e2
  · rename_i d e3
    split at e2
    · rename_i e4
      refine ho R e1 _ fun μ1 Hd1 H1 v g1 R1 r1 => ⟨tyB_ok (see_ok R1.wo r1 e3) e4, ?_⟩
      exact hf R1 r1 .nil e2 Q fun μ3 Hd3 H3 w g3 R3 r3 => q μ3 Hd3 H3 w (g1.trans g3) R3 r3
    · cases e2
  · cases e2
/-- the list of a cell, changed -/
def onC (f : List Dt → Option (Dt × List Dt)) : Vl → M Vl
  | .c k => fun E => match E.ce[k]? with
    | some (.lst xs) => match f xs with
      | some (d, ys) => some (.d d, ⟨E.sl, E.ce.set k (.lst ys)⟩)
      | none => none
    | _ => none
  | _ => failM
theorem onC_some {f : List Dt → Option (Dt × List Dt)} {x z : Vl} {E E' : En} (h : onC f x E = some (z, E')) : ∃ k xs d ys, x = .c k ∧ E.ce[k]? = some (.lst xs) ∧ f xs = some (d, ys) ∧ z = .d d ∧ E' = ⟨E.sl, E.ce.set k (.lst ys)⟩ := by
  cases x with
  | d d => cases h
  | c k =>
    have h : (match E.ce[k]? with
      | some (.lst xs) => match f xs with
        | some (d, ys) => some (Vl.d d, (⟨E.sl, E.ce.set k (.lst ys)⟩ : En))
        | none => none
      | _ => none) = some (z, E') := h
    split at h
    · rename_i xs e1
      split at h
      · rename_i d ys e2
        cases h
        exact ⟨k, xs, d, ys, rfl, e1, e2, rfl, rfl⟩
      · cases h
    · cases h
def appF : Vl → List Vl → M Vl := fun x xs => match xs with
  | [r] => bindM (fzM r) fun d => onC (fun acc => if acc.length < 100000 then some (.non, acc ++ [d]) else none) x
  | _ => failM
theorem mm_append {K : PySem.W.Frag} : MM K "list" rAppend appF := fun {μ Hd H σ E x vx xs vs z E'} R hx hxs e Q q => by
  unfold appF at e
  split at e
  · rename_i r
    obtain ⟨d, E1, e1, e2⟩ := bindM_some e
    obtain ⟨v, rfl, hv⟩ := hxs.one
    obtain ⟨Hd1, g1, R1, r1⟩ := fzM_ok R hv e1
    obtain ⟨k, acc, d2, ys, rfl, e3, e4, rfl, rfl⟩ := onC_some e2
    split at e4
    · rename_i hz
      cases e4
      obtain ⟨a, ha, rfl⟩ := Rv.gr g1 hx
      obtain ⟨c1, us, c2, c3⟩ := R1.wo.at_ _ _ _ e3 ha
      exact ⟨a, us, v, rfl, rfl, c2, by rw [c3.len]; exact sz_lt hz, q _ _ _ _ g1 (R1.setC e3 ha (c3.app (RpA.one r1))) rfl⟩
    · cases e4
  · cases e
def popF : Vl → List Vl → M Vl := fun x xs => match xs with
  | [] => onC (fun acc => match acc[acc.length - 1]? with
    | some d => some (d, acc.dropLast)
    | none => none) x
  | _ => failM
theorem mm_pop {K : PySem.W.Frag} : MM K "list" rPop popF := fun {μ Hd H σ E x vx xs vs z E'} R hx hxs e Q q => by
  unfold popF at e
  split at e
  · cases hxs
    obtain ⟨k, acc, d2, ys, rfl, e3, e4, rfl, rfl⟩ := onC_some e
    split at e4
    · rename_i d hd
      cases e4
      obtain ⟨a, ha, rfl⟩ := hx
      obtain ⟨c1, us, c2, c3⟩ := R.wo.at_ _ _ _ e3 ha
      obtain ⟨v, v1, v2⟩ := RpA.at c3 hd
      exact ⟨a, us, v, rfl, rfl, c2, by rw [c3.len]; exact v1, q _ _ _ _ (Gr.refl μ Hd) (R.setC e3 ha c3.dropLast) v2⟩
    · cases e4
  · cases e
def clearF : Vl → List Vl → M Vl := fun x xs => match xs with
  | [] => onC (fun acc => some (.non, [])) x
  | _ => failM
theorem mm_clear {K : PySem.W.Frag} : MM K "list" rClear clearF := fun {μ Hd H σ E x vx xs vs z E'} R hx hxs e Q q => by
  unfold clearF at e
  split at e
  · cases hxs
    obtain ⟨k, acc, d2, ys, rfl, e3, e4, rfl, rfl⟩ := onC_some e
    cases e4
    obtain ⟨a, ha, rfl⟩ := hx
    obtain ⟨c1, us, c2, c3⟩ := R.wo.at_ _ _ _ e3 ha
    exact ⟨a, us, rfl, rfl, c2, q _ _ _ _ (Gr.refl μ Hd) (R.setC e3 ha (show RpA K Hd [] [] from rfl)) rfl⟩
  · cases e
/-- xs.extend(ys), ys a list -/
def extF : Vl → List Vl → M Vl := fun x xs => match xs with
  | [r] => fun E => match see E.ce r with
    | some (.lst ds) => onC (fun acc => if acc.length + ds.length ≤ 100000 then some (.non, acc ++ ds) else none) x E
    | _ => none
  | _ => failM
theorem mm_extend {K : PySem.W.Frag} : MM K "list" rExtend extF := fun {μ Hd H σ E x vx xs vs z E'} R hx hxs e Q q => by
  unfold extF at e
  split at e
  · rename_i r
    split at e
    · rename_i ds e1
      obtain ⟨v, rfl, hv⟩ := hxs.one
      obtain ⟨b, us, rfl, h2, h3⟩ := see_lst R.wo hv e1
      obtain ⟨k, acc, d2, ys, rfl, e3, e4, rfl, rfl⟩ := onC_some e
      split at e4
      · rename_i hz
        cases e4
        obtain ⟨a, ha, rfl⟩ := hx
        obtain ⟨c1, ws, c2, c3⟩ := R.wo.at_ _ _ _ e3 ha
        exact ⟨a, b, ws, us, rfl, rfl, c2, h2, by rw [c3.len, h3.len]; exact sz_of hz, q _ _ _ _ (Gr.refl μ Hd) (R.setC e3 ha (c3.app h3)) rfl⟩
      · cases e4
    · cases e
  · cases e
/-- o[i] = e, o a cell's list -/
def setIS (m mo mi : M Vl) : En → Option Rs := fun E => match (bindM m fun r => bindM mo fun o => bindM mi fun i => match i with
    | .d (.int j) => bindM (fzM r) fun d => onC (fun acc => (ixN acc.length j).map fun n => (.non, acc.set n d)) o
    | _ => failM) E with
  | some (_, E1) => some (.nx E1)
  | none => none
theorem ssetI {i : Expr} {ti : TE} {mi : M Vl} {p3 : Pos} (h : Ex_ X e te m) (ho : Ex_ X o to mo) (hi : Ex_ X i ti mi) (pg : PG X (.Subscript o i p3) (gSub to ti rSetL))
    (hs : swapsWithSole [.Subscript o i p3] e pos.line X.env = pure false := by rfl) (hw : swappedStores [.Subscript o i p3] e X.env = pure none := by rfl) (h1 : (assignEach [.Subscript o i p3] X.env).map (·.2) = [assign (.Subscript o i p3) X.env] := by rfl) :
    Sx X (.Assign [.Subscript o i p3] e pos) (tAsg te (gSub to ti rSetL)) (setIS m mo mi) := ⟨ps_asg h.pe pg hs hw h1, fun {μ Hd H σ E R} r q D d => by
  unfold setIS at q
  split at q
  · rename_i u E1 e1
    cases q
    obtain ⟨x, E2, e2, e1⟩ := bindM_some e1
    obtain ⟨y, E3, e3, e1⟩ := bindM_some e1
    obtain ⟨z, E4, e4, e1⟩ := bindM_some e1
    refine h.em r e2 _ fun μ1 Hd1 H1 v g1 R1 r1 => ?_
    refine ho.em R1 e3 _ fun μ2 Hd2 H2 w g2 R2 r2 => ?_
    refine hi.em R2 e4 _ fun μ3 Hd3 H3 w3 g3 R3 r3 => ?_
    split at e1
    · rename_i j
      obtain ⟨dd, E5, e5, e1⟩ := bindM_some e1
      obtain ⟨Hd4, g4, R4, r4⟩ := fzM_ok R3 (Rv.gr (g2.trans g3) r1) e5
      obtain ⟨k, acc, d2, ys, rfl, e6, e7, rfl, rfl⟩ := onC_some e1
      cases q2 : ixN acc.length j with
      | none =>
        rw [q2] at e7
        cases e7
      | some n =>
        rw [q2] at e7
        cases e7
        obtain ⟨a, ha, rfl⟩ := Rv.gr (g3.trans g4) r2
        obtain ⟨c1, us, c2, c3⟩ := R4.wo.at_ _ _ _ e6 ha
        exact ⟨a, us, j, n, rfl, r3, c2, by rw [c3.len]; exact q2, d _ _ _ _ (((g1.trans g2).trans g3).trans g4) (R4.setC e6 ha (c3.set n r4))⟩
    · cases e1
  · cases q⟩
end
end Hk
/-! Hk6: calls of own defs, isinstance, short rules by name. -/
namespace Hk
open PySem PySem.Spec PyProof.Rows L2 Evl
section
variable {K : PySem.W.Frag}
theorem om_sub : OM K (rI0 fun i j => .int (i - j)) (op2 subF) := om_intI0
theorem om_mod : OM K (rI (fun _ j => j ≠ 0) fun i j => .int (i.fmod j)) (op2 modF) := om_intI
theorem om_fdiv : OM K (rI CDivN fun i j => .int (i.fdiv j)) (op2 fdivF) := om_intI
theorem om_pow : OM K (rI CPow fun i j => .int (i ^ j.toNat)) (op2 powF) := om_intI
theorem om_lt : OM K (rI0 fun i j => .bl (decide (i < j))) (op2 ltF) := om_intB
theorem om_le : OM K (rI0 fun i j => .bl (decide (i ≤ j))) (op2 leF) := om_intB
theorem om_gt : OM K (rI0 fun i j => .bl (decide (j < i))) (op2 gtF) := om_intB
theorem om_ge : OM K (rI0 fun i j => .bl (decide (j ≤ i))) (op2 geF) := om_intB
theorem op2_bl {f : Dt → Dt → Option Dt} (h : ∀ a b d, f a b = some d → ∃ k, d = .bl k) : ∀ x y E z E', op2 f x y E = some (z, E') → ∃ k, z = .d (.bl k) := fun x y E z E' e => by
  obtain ⟨a, b, d, _, _, e3, rfl, _⟩ := op2_some e
  obtain ⟨k, rfl⟩ := h a b d e3
  exact ⟨k, rfl⟩
theorem intB_bl {f : Int → Int → Bool} : ∀ a b d, intF (fun i j => some (Dt.bl (f i j))) a b = some d → ∃ k, d = .bl k := fun a b d e => by
  obtain ⟨i, j, _, _, e⟩ := intF_some e
  cases e
  exact ⟨_, rfl⟩
theorem le_bl : ∀ x y E z E', op2 leF x y E = some (z, E') → ∃ k, z = .d (.bl k) := op2_bl intB_bl
theorem lt_bl : ∀ x y E z E', op2 ltF x y E = some (z, E') → ∃ k, z = .d (.bl k) := op2_bl intB_bl

/-! ### isinstance -/
def tyN : Dt → Option String
  | .non => some "NoneType"
  | .bl _ => some "bool"
  | .int _ => some "int"
  | .str _ => some "str"
  | .lst _ => some "list"
  | .tup _ => some "tuple"
  | .dic _ _ => some "dict"
  | _ => none
theorem tyN_ok {H : Hp} {d : Dt} {v : V} {n : String} (h : Rp K H d v) (e : tyN d = some n) : TyX K H v (.type n) := by
  cases d with
  | non =>
    cases e
    cases (show v = .non from h)
    exact .base .non
  | bl b =>
    cases e
    cases (show v = .bl b from h)
    exact .base (.bl b)
  | int b =>
    cases e
    cases (show v = .int b from h)
    exact .base (.int b)
  | str b =>
    cases e
    cases (show v = .str b from h)
    exact .base (.str b)
  | lst xs =>
    cases e
    obtain ⟨a, vs, rfl, h2, _⟩ := h
    exact .base (.lst h2)
  | tup xs =>
    cases e
    obtain ⟨a, vs, rfl, h2, _⟩ := h
    rcases h2 with (h2 | ⟨o, h2⟩) | ⟨o, its, n, h2, h3, _⟩
    · exact .base (.tup h2)
    · exact .fTuple h2
    · exact .kTuple h2 h3
  | dic ks ds =>
    cases e
    obtain ⟨a, kvs, rfl, h2, _⟩ := h
    exact .base (.dK h2)
  | sq xs => cases e
  | obj _ _ _ => cases e
def isiF (n : String) : Dt → Option Dt := fun d => match tyN d with
  | some t => (kitB t n).map .bl
  | none => none
def isi2F (n1 n2 : String) : Dt → Option Dt := fun d => match tyN d with
  | some t => match kitB t n1, kitB t n2 with
    | some a, some b => some (.bl (a || b))
    | _, _ => none
  | none => none
def seeF (f : Dt → Option Dt) (x : Vl) : M Vl := fun E => match see E.ce x with
  | some a => (f a).map fun d => (.d d, E)
  | none => none
theorem seeF_some {f : Dt → Option Dt} {x z : Vl} {E E' : En} (h : seeF f x E = some (z, E')) : ∃ a d, see E.ce x = some a ∧ f a = some d ∧ z = .d d ∧ E' = E := by
  unfold seeF at h
  cases e1 : see E.ce x with
  | none =>
    rw [e1] at h
    cases h
  | some a =>
    rw [e1] at h
    cases q : f a with
    | none => simp [q] at h
    | some d =>
      simp only [q, Option.map_some, Option.some.injEq, Prod.mk.injEq] at h
      obtain ⟨rfl, rfl⟩ := h
      exact ⟨a, d, rfl, q, rfl, rfl⟩
theorem em_isi {ta : TE} {ma : M Vl} {n : String} (ha : EM K ta ma) : EM K (tCB (rIsi K) (tCons ta (tCons (tC (.ty n)) tNil))) (bindM ma (seeF (isiF n))) := fun {μ Hd H σ E r E'} R e Q q => by
  obtain ⟨x, E1, e1, e2⟩ := bindM_some e
  obtain ⟨d, z, e3, e4, rfl, rfl⟩ := seeF_some e2
  refine ha R e1 _ fun μ1 Hd1 H1 v g1 R1 r1 => ?_
  unfold isiF at e4
  cases e5 : tyN d with
  | none =>
    rw [e5] at e4
    cases e4
  | some t =>
    rw [e5] at e4
    have e4 : (kitB t n).map Dt.bl = some z := e4
    cases e6 : kitB t n with
    | none =>
      rw [e6] at e4
      cases e4
    | some b =>
      rw [e6] at e4
      cases e4
      exact ⟨v, .ty n, .type t, .type n, b, rfl, .ty n, tyN_ok (see_ok R1.wo r1 e3) e5, kit_ty e6, q _ _ _ _ g1 R1 rfl⟩
theorem em_isi2 {ta : TE} {ma : M Vl} {n1 n2 : String} (ha : EM K ta ma) : EM K (tCB (rIsiT K) (tCons ta (tCons (tTup (tCons (tC (.ty n1)) (tCons (tC (.ty n2)) tNil))) tNil))) (bindM ma (seeF (isi2F n1 n2))) := fun {μ Hd H σ E r E'} R e Q q => by
  obtain ⟨x, E1, e1, e2⟩ := bindM_some e
  obtain ⟨d, z, e3, e4, rfl, rfl⟩ := seeF_some e2
  refine ha R e1 _ fun μ1 Hd1 H1 v g1 R1 r1 => ?_
  unfold isi2F at e4
  cases e5 : tyN d with
  | none =>
    rw [e5] at e4
    cases e4
  | some t =>
    rw [e5] at e4
    have e4 : (match kitB t n1, kitB t n2 with
      | some a, some b => some (Dt.bl (a || b))
      | _, _ => none) = some z := e4
    split at e4
    · rename_i a b e6 e7
      cases e4
      refine ⟨by show 2 ≤ sizeLine; exact sz_of (by decide), fun p hp => ?_⟩
      obtain ⟨g2, R2⟩ := R1.newD (o := .tup [.ty n1, .ty n2]) hp
      refine ⟨v, p, [.ty n1, .ty n2], .type t, [.type n1, .type n2], a || b, rfl, upd_same, .cons (.ty n1) (.cons (.ty n2) .nil), tyN_ok (Rp.ex (Ex.new hp) _ _ (see_ok R1.wo r1 e3)) e5, ?_, q _ _ _ _ (g1.trans g2) R2 rfl⟩
      exact kitAny_cons (kit_ty e6) (fun ha => kitAny_cons (kit_ty e7) (fun hb => by rw [ha, hb]; exact kitAny_nil) (fun hb => by rw [ha, hb]; rfl)) (fun ha => by rw [ha]; rfl)
    · cases e4
end
section
variable {X : Cx} {a e : Expr} {es : List Expr} {ta te : TE} {ma m : M Vl} {tes : TA} {mes : M (List Vl)} {pos p p2 p3 : Pos}
theorem xisi {x : Str} {n : String} (hm : X.mg "isinstance" = none) (ha : Ex_ X a ta ma) (hmx : X.mg x = none) (hv : bootBuiltins x = some (.type n)) (hg : Gl X "isinstance" := by rfl) (hgx : Gl X x := by rfl) (hn : x ≠ "__name__" := by decide) (hdb : (x == ("__debug__" : Str)) = false := by decide) (hcd : (x == ("__classdict__" : Str)) = false := by decide)
    (h1 : starEach [a, .Name x p2] X.env = (false, eval a X.env) :: starEach [.Name x p2] X.env := by rfl) (h2 : starEach [.Name x p2] X.env = [(false, eval (.Name x p2) X.env)] := by rfl) (h3 : (backTo pos (starEach [.Name x p2] X.env)).any (·.1) = false := by rfl) :
    Ex_ X (.Call (.Name "isinstance" p) [a, .Name x p2] [] pos) (tCB (rIsi X.K) (tCons ta (tCons (tC (.ty n)) tNil))) (bindM ma (seeF (isiF n))) :=
  ⟨pe_callB call_isi hg hm (by decide +kernel) (pa_cons ha.pe (pa_cons (pe_bltn hgx hmx hv (v := .ty n) rfl hn hdb) pa_nil h2) h1) (by decide) (by decide) h1 h3, em_isi ha.em⟩
/-- a call of a def -/
theorem xcall {x : Str} {n k : Nat} {f : Addr} {fd : FuncData} {ps : List Str} {G : Fn} {CX : CXT} {E : XK} (F : FnOk X.prog X.w X.K X.mg X.base CX k f fd ps (spM X.K n G)) (hr : Room k X.A) (hm : X.mg x = some (.ref f)) (hk : PySem.W.keepIn X.K (.ref f) = true) (hb : Binds X.K fd ps [])
    (ha : Ax X (e :: es) tes mes) (hn : ∀ (E : En) (rs : List Vl) (E' : En), mes E = some (rs, E') → rs.length = n) (hx : Passes CX X E) (hg : Gl X x := by rfl) (hdb : (x == ("__debug__" : Str)) = false := by decide)
    (he : starEach (e :: es) X.env = (false, eval e X.env) :: starEach es X.env := by rfl) (hpl : (backTo pos (starEach es X.env)).any (·.1) = false := by rfl) :
    Ex_ X (.Call (.Name x p) (e :: es) [] pos) (tCall (spM X.K n G) [] E tes) (callM G mes) := ⟨pe_call F hr hg hm hk hb .nil hx ha.pa hdb he hpl, em_call hn ha.am⟩
theorem xcall0 {x : Str} {k : Nat} {f : Addr} {fd : FuncData} {G : Fn} {CX : CXT} {E : XK} (F : FnOk X.prog X.w X.K X.mg X.base CX k f fd [] (spM X.K 0 G)) (hr : Room k X.A) (hm : X.mg x = some (.ref f)) (hk : PySem.W.keepIn X.K (.ref f) = true) (hb : Binds X.K fd [] [])
    (hx : Passes CX X E) (hg : Gl X x := by rfl) (hdb : (x == ("__debug__" : Str)) = false := by decide) :
    Ex_ X (.Call (.Name x p) [] [] pos) (tCall (spM X.K 0 G) [] E tNil) (callM G (retM [])) := ⟨pe_call0 F hr hg hm hk hb .nil hx hdb, em_call (nil_len rfl) anil.am⟩
/-- o.m(e, ..), o a list -/
theorem xlm {o : Expr} {to : TE} {mo : M Vl} {name : Str} {id : String} {r : V → List V → Hp → VK → Prop} {f : Vl → List Vl → M Vl} {apos cpos : Pos} (slot : Slot "list" name id) (hty : typeOf (.builtin id) = pure (.type "method_descriptor")) (hm : MtR X id r) (hf : MM X.K "list" r f) (ho : Ex_ X o to mo) (ha : Ax X (e :: es) tes mes)
    (hbase : attributeBase o name X.env (eval o X.env) = eval o X.env := by rfl)
    (hfew : ((backTo cpos (starEach (e :: es) X.env)).all (fun x => !x.1) && (backToKw cpos (keywordEach [] X.env)).all (fun x => x.1.isSome)
      && decide ((e :: es).length + ([] : List Keyword).length + (if ([] : List Keyword).isEmpty then 0 else 1) < 30)) = true := by rfl)
    (hline : (apos.endLine == cpos.line) = true := by rfl) (hs : starEach (e :: es) X.env = (false, eval e X.env) :: starEach es X.env := by rfl) (hplain : (backTo cpos (starEach es X.env)).any (·.1) = false := by rfl) :
    Ex_ X (.Call (.Attribute o name apos) (e :: es) [] cpos) (tBM X.K "list" r to tes) (bmM "list" mo mes f) := ⟨pe_bm PySem.F.plainAttrs_list slot hty hm ho.pe ha.pa hbase hfew hline hs hplain, em_bm ho.em ha.am hf⟩
theorem xlm0 {o : Expr} {to : TE} {mo : M Vl} {name : Str} {id : String} {r : V → List V → Hp → VK → Prop} {f : Vl → List Vl → M Vl} {apos cpos : Pos} (slot : Slot "list" name id) (hty : typeOf (.builtin id) = pure (.type "method_descriptor")) (hm : MtR X id r) (hf : MM X.K "list" r f) (ho : Ex_ X o to mo)
    (hbase : attributeBase o name X.env (eval o X.env) = eval o X.env := by rfl) (hline : (apos.endLine == cpos.line) = true := by rfl) :
    Ex_ X (.Call (.Attribute o name apos) [] [] cpos) (tBM0 X.K "list" r to) (bmM "list" mo (retM []) f) := ⟨pe_bm0 PySem.F.plainAttrs_list slot hty hm ho.pe hbase hline, em_bm0 ho.em hf⟩
/-- -n, n written -/
def negM (m : M Vl) : M Vl := bindM m fun r => match r with
  | .d (.int i) => retM (.d (.int (-i)))
  | _ => failM
theorem xneg (ha : Ex_ X a ta ma) : Ex_ X (.UnaryOp .USub a pos) (tUn (rU fun i => .int (-i)) ta) (negM ma) := ⟨pe_un un_neg ha.pe, fun {μ Hd H σ E r E'} R q Q k => by
  obtain ⟨x, E1, e1, e2⟩ := bindM_some q
  split at e2
  · rename_i i
    cases e2
    exact ha.em R e1 _ fun μ1 Hd1 H1 v g1 R1 r1 => ⟨i, r1, k _ _ _ _ g1 R1 rfl⟩
  · cases e2⟩
theorem re_te {te' : TE} (h : Ex_ X e te m) (q : te = te') : Ex_ X e te' m := q ▸ h
theorem re_tt {ifs : List Expr} {tt tt' : TT} {mt : M Bool} (h : Px X ifs tt mt) (q : tt = tt') : Px X ifs tt' mt := q ▸ h
theorem body_ok {st : List Stmt} {ts : TS} {m : En → Option Rs} {n nl : Nat} {N : List Str} {vs : List V} {H : Hp} {Q : VK} {E : XK} (B : Bx X st ts m) (hN : N.length = n + nl) (h : spM X.K n (fnOf nl m) vs H Q E) :
    ∃ t, PSs X st t ∧ t { nx := fun _ H' => Q .non H', rt := Q } (L2.start N vs) H := ⟨ts, B.ps, run_fn B.sm hN h⟩
end
end Hk
/-! Hk7: reckoning with what a def does, from the left: one rule a piece. -/
namespace Hk
open PySem PySem.Spec PyProof.Rows L2 Evl
section
variable {α β : Type} {E E1 E2 E3 : En} {a : α} {b : β} {r x y z : Vl} {d e d1 d2 : Dt} {k : Bool} {R Q : Rs} {rs : List Vl}
theorem get_new {α : Type} (l : List α) (x : α) : (l ++ [x])[l.length]? = some x := by simp
theorem set_new {α : Type} (l : List α) (x y : α) : (l ++ [x]).set l.length y = l ++ [y] := by
  rw [List.set_append_right _ _ (Nat.le_refl _)]
  simp
theorem get_set {α : Type} {l : List α} {k : Nat} {x y : α} (h : l[k]? = some y) : (l.set k x)[k]? = some x := by
  rw [List.getElem?_set, if_pos rfl, if_pos (List.getElem?_eq_some_iff.mp h).1]
theorem zv_ret {a : α} : retM a E = some (a, E) := rfl
theorem zv_bind {m : M α} {f : α → M β} (h : m E = some (a, E1)) (g : f a E1 = some (b, E2)) : bindM m f E = some (b, E2) := by
  unfold bindM
  rw [h]
  exact g
theorem zv_var {i : Nat} {sl : List (Option Vl)} {ce : List Ce} (h : sl[i]? = some (some r)) : vM i ⟨sl, ce⟩ = some (r, ⟨sl, ce⟩) := by
  unfold vM
  rw [show (En.mk sl ce).sl = sl from rfl, h]
theorem zv_cons {m : M Vl} {ms : M (List Vl)} (h : m E = some (x, E1)) (g : ms E1 = some (rs, E2)) : consM m ms E = some (x :: rs, E2) := zv_bind h (zv_bind g zv_ret)
theorem zv_op2 {f : Dt → Dt → Option Dt} (h1 : see E.ce x = some d1) (h2 : see E.ce y = some d2) (h : f d1 d2 = some d) : op2 f x y E = some (.d d, E) := by
  unfold op2
  rw [h1, h2]
  show (f d1 d2).map _ = _
  rw [h]
  rfl
theorem zv_seeD {ce : List Ce} : see ce (.d d) = some d := rfl
theorem zv_seeC {ce : List Ce} {k : Nat} {xs : List Dt} (h : ce[k]? = some (.lst xs)) : see ce (.c k) = some (.lst xs) := by
  show seeC ce[k]? = _
  rw [h]
  rfl
theorem zv_fzD : fzM (.d d) E = some (d, E) := rfl
theorem zv_fzC {k : Nat} {xs : List Dt} {sl : List (Option Vl)} {ce : List Ce} (h : ce[k]? = some (.lst xs)) : fzM (.c k) ⟨sl, ce⟩ = some (.lst xs, ⟨sl.map (Option.map (frzV k xs)), ce.set k .dead⟩) := by
  show (match ce[k]? with
    | some (.lst xs) => some (Dt.lst xs, frz k xs ⟨sl, ce⟩)
    | _ => none) = _
  rw [h]
  rfl
theorem zv_fzV {m : M Vl} (h : m E = some (x, E1)) (g : fzM x E1 = some (d, E2)) : fzV m E = some (.d d, E2) := zv_bind (zv_bind h g) zv_ret
theorem zv_ix (h1 : see E.ce x = some d1) (h2 : see E.ce y = some d2) (h : ixD d1 d2 = some d) : ixF x y E = some (.d d, E) := by
  unfold ixF
  rw [h1, h2]
  show (ixD d1 d2).map _ = _
  rw [h]
  rfl
theorem zv_fn1 {f : Dt → Option Dt} (h1 : see E.ce x = some d1) (h : f d1 = some d) : fn1 f [x] E = some (.d d, E) := by
  show (match see E.ce x with
    | some a => (f a).map fun d => (Vl.d d, E)
    | none => none) = _
  rw [h1]
  show (f d1).map _ = _
  rw [h]
  rfl
theorem zv_fn2 {f : Dt → Dt → Option Dt} (h : op2 f x y E = some (z, E1)) : fn2 f [x, y] E = some (z, E1) := h
theorem zv_see {f : Dt → Option Dt} (h1 : see E.ce x = some d1) (h : f d1 = some d) : seeF f x E = some (.d d, E) := by
  unfold seeF
  rw [h1]
  show (f d1).map _ = _
  rw [h]
  rfl
theorem zv_bool : boolM (.d (.bl k)) E = some (k, E) := rfl
theorem zv_tru (h1 : see E.ce x = some d) (h : truD d = some k) : truM x E = some (k, E) := by
  unfold truM
  rw [h1]
  show (truD d).map _ = _
  rw [h]
  rfl
theorem zv_fzA0 : fzA [] E = some ([], E) := rfl
theorem zv_fzA1 {ds : List Dt} (h : fzM x E = some (d, E1)) (g : fzA rs E1 = some (ds, E2)) : fzA (x :: rs) E = some (d :: ds, E2) := zv_bind h (zv_bind g zv_ret)
theorem zv_newL {xs : List Dt} {sl : List (Option Vl)} {ce : List Ce} : newL xs ⟨sl, ce⟩ = some (.c ce.length, ⟨sl, ce ++ [.lst xs]⟩) := rfl
theorem zv_tup {m : M (List Vl)} {ds : List Dt} (h : m E = some (rs, E1)) (hl : rs.length ≤ 100000) (g : fzA rs E1 = some (ds, E2)) : tupM m E = some (.d (.tup ds), E2) := zv_bind h (by rw [if_pos hl]; exact zv_bind g zv_ret)
theorem zv_lst {m : M (List Vl)} {ds : List Dt} (h : m E = some (rs, E1)) (hl : rs.length ≤ 100000) (g : fzA rs E1 = some (ds, E2)) (n : newL ds E2 = some (z, E3)) : lstM m E = some (z, E3) := zv_bind h (by rw [if_pos hl]; exact zv_bind g n)
theorem zv_andT {m n : M Bool} (h : m E = some (k, E1)) (hk : k = true) {b : Bool} (g : n E1 = some (b, E2)) : andM m n E = some (b, E2) := zv_bind h (by rw [if_pos hk]; exact g)
theorem zv_andF {m n : M Bool} (h : m E = some (k, E1)) (hk : k = false) : andM m n E = some (false, E1) := zv_bind h (by rw [hk]; rfl)
theorem zv_orF {m n : M Bool} (h : m E = some (k, E1)) (hk : k = false) {b : Bool} (g : n E1 = some (b, E2)) : orM m n E = some (b, E2) := zv_bind h (by rw [hk]; exact g)
theorem zv_orT {m n : M Bool} (h : m E = some (k, E1)) (hk : k = true) : orM m n E = some (true, E1) := zv_bind h (by rw [hk]; rfl)
theorem zv_not {m : M Bool} (h : m E = some (k, E1)) : notM m E = some (!k, E1) := zv_bind h zv_ret
theorem zv_ifT {t : M Bool} {m n : M α} (h : t E = some (k, E1)) (hk : k = true) (g : m E1 = some (a, E2)) : ifM t m n E = some (a, E2) := zv_bind h (by rw [if_pos hk]; exact g)
theorem zv_ifF {t : M Bool} {m n : M α} (h : t E = some (k, E1)) (hk : k = false) (g : n E1 = some (a, E2)) : ifM t m n E = some (a, E2) := zv_bind h (by rw [hk]; exact g)
theorem zv_notV {m : M Vl} (h : bindM m boolM E = some (k, E1)) : notV m E = some (.d (.bl (!k)), E1) := zv_bind h zv_ret
theorem zv_neg {m : M Vl} {i : Int} (h : m E = some (.d (.int i), E1)) : negM m E = some (.d (.int (-i)), E1) := zv_bind h zv_ret
theorem zv_part {m : M Vl} {i : Int} (h : m E = some (.d (.int i), E1)) : partM m E = some (some i, E1) := zv_bind h zv_ret
theorem zv_call {G : Fn} {m : M (List Vl)} {sl : List (Option Vl)} {ce ce' : List Ce} (h : m E = some (rs, ⟨sl, ce⟩)) (g : G rs ce = some (z, ce')) : callM G m E = some (z, ⟨sl, ce'⟩) := zv_bind h (by
  show (match G rs ce with
    | some (z, ce) => some (z, (⟨sl, ce⟩ : En))
    | none => none) = _
  rw [g])
theorem zv_addI {i j : Int} (h1 : see E.ce x = some (.int i)) (h2 : see E.ce y = some (.int j)) : addF x y E = some (.d (.int (i + j)), E) := by
  unfold addF
  rw [h1, h2]
theorem zv_addT {xs ys : List Dt} (h1 : see E.ce x = some (.tup xs)) (h2 : see E.ce y = some (.tup ys)) (h : xs.length + ys.length ≤ 100000) : addF x y E = some (.d (.tup (xs ++ ys)), E) := by
  unfold addF
  rw [h1, h2]
  show (if _ then _ else _) = _
  rw [if_pos h]
theorem zv_addL {xs ys : List Dt} (h1 : see E.ce x = some (.lst xs)) (h2 : see E.ce y = some (.lst ys)) (h : xs.length + ys.length ≤ 100000) (g : newL (xs ++ ys) E = some (z, E1)) : addF x y E = some (z, E1) := by
  unfold addF
  rw [h1, h2]
  show (if _ then _ else _) = _
  rw [if_pos h, g]
theorem zv_addS {s t : Str} (h1 : see E.ce x = some (.str s)) (h2 : see E.ce y = some (.str t)) (h : s.length + t.length ≤ sizeLine) : addF x y E = some (.d (.str (s ++ t)), E) := by
  unfold addF
  rw [h1, h2]
  show (if _ then _ else _) = _
  rw [if_pos h]
theorem zv_mulI {i j : Int} (h1 : see E.ce x = some (.int i)) (h2 : see E.ce y = some (.int j)) (h : CMul i j) : mulF x y E = some (.d (.int (i * j)), E) := by
  unfold mulF
  rw [h1, h2]
  show (if _ then _ else _) = _
  rw [if_pos h]
theorem zv_mulT {xs : List Dt} {j : Int} (h1 : see E.ce x = some (.tup xs)) (h2 : see E.ce y = some (.int j)) (h : -1000 ≤ j ∧ j ≤ 1000 ∧ xs.length ≤ 1000 ∧ xs ≠ []) : mulF x y E = some (.d (.tup (List.replicate j.toNat xs).flatten), E) := by
  unfold mulF
  rw [h1, h2]
  show (if _ then _ else _) = _
  rw [if_pos h]
theorem zv_mulL {xs : List Dt} {j : Int} (h1 : see E.ce x = some (.lst xs)) (h2 : see E.ce y = some (.int j)) (h : -1000 ≤ j ∧ j ≤ 1000 ∧ xs.length ≤ 1000) (g : newL (List.replicate j.toNat xs).flatten E = some (z, E1)) : mulF x y E = some (z, E1) := by
  unfold mulF
  rw [h1, h2]
  show (if _ then _ else _) = _
  rw [if_pos h, g]
theorem zv_slT {xs : List Dt} {lo hi : Option Int} (h : see E.ce x = some (.tup xs)) : slF x lo hi E = some (.d (.tup (cutD xs lo hi)), E) := by
  unfold slF
  rw [h]
theorem zv_slL {xs : List Dt} {lo hi : Option Int} (h : see E.ce x = some (.lst xs)) (g : newL (cutD xs lo hi) E = some (z, E1)) : slF x lo hi E = some (z, E1) := by
  unfold slF
  rw [h]
  exact g
theorem zv_slS {s : Str} {lo hi : Option Int} (h : see E.ce x = some (.str s)) (hz : s.length ≤ sizeLine) : slF x lo hi E = some (.d (.str (cutS s lo hi)), E) := by
  unfold slF
  rw [h]
  show (if _ then _ else _) = _
  rw [if_pos hz]
theorem zv_list {ds : List Dt} (h : see E.ce x = some d) (hd : itemsD d = some ds) (g : newL ds E = some (z, E1)) : listF [x] E = some (z, E1) := by
  show (match (see E.ce x).bind itemsD with
    | some ds => newL ds E
    | none => none) = _
  rw [h]
  show (match itemsD d with
    | some ds => newL ds E
    | none => none) = _
  rw [hd]
  exact g
theorem zv_tuple {ds : List Dt} (h : see E.ce x = some d) (hd : itemsD d = some ds) : tupleF [x] E = some (.d (.tup ds), E) := by
  show (match (see E.ce x).bind itemsD with
    | some ds => some (Vl.d (.tup ds), E)
    | none => none) = _
  rw [h]
  show (match itemsD d with
    | some ds => some (Vl.d (.tup ds), E)
    | none => none) = _
  rw [hd]
theorem zv_items {m : M Vl} {ds : List Dt} (h : m E = some (x, E1)) (g : fzM x E1 = some (d, E2)) (hd : itemsD d = some ds) : itemsM m E = some (ds, E2) := zv_bind (zv_bind h g) (by
  show (itemsD d).map _ = _
  rw [hd]
  rfl)
theorem zv_rng1 {m : M (List Vl)} {n : Int} (h : m E = some ([.d (.int n)], E1)) (hn : -(2 ^ 62) ≤ n ∧ n < 2 ^ 62) : rng1M m E = some (rngL 0 n.toNat, E1) := zv_bind h (by
  show (if _ then _ else _) = _
  rw [if_pos hn])
theorem zv_rng2 {m : M (List Vl)} {i j : Int} (h : m E = some ([.d (.int i), .d (.int j)], E1)) (hn : -(2 ^ 62) ≤ i ∧ i < 2 ^ 62 ∧ -(2 ^ 62) ≤ j ∧ j < 2 ^ 62) : rng2M m E = some (rngL i (j - i).toNat, E1) := zv_bind h (by
  show (if _ then _ else _) = _
  rw [if_pos hn])
/-- data -/
theorem zw_int {g : Int → Int → Option Dt} {i j : Int} (h : g i j = some d) : intF g (.int i) (.int j) = some d := h
theorem zw_lenL {xs : List Dt} : lenD (.lst xs) = some (.int (xs.length : Int)) := rfl
theorem zw_lenQ {xs : List Dt} : lenD (.sq xs) = some (.int (xs.length : Int)) := rfl
theorem zw_lenT {xs : List Dt} : lenD (.tup xs) = some (.int (xs.length : Int)) := rfl
theorem zw_eq (h : eqd d1 d2 = some k) : eqF d1 d2 = some (.bl k) := by
  unfold eqF
  rw [h]
  rfl
theorem zw_ne (h : eqd d1 d2 = some k) : neF d1 d2 = some (.bl (!k)) := by
  unfold neF
  rw [h]
  rfl
theorem zw_mod {i j : Int} (h : j ≠ 0) : modF (.int i) (.int j) = some (.int (i.fmod j)) := by
  show (if j ≠ 0 then _ else _) = _
  rw [if_pos h]
theorem zw_fdiv {i j : Int} (h : CDivN i j) : fdivF (.int i) (.int j) = some (.int (i.fdiv j)) := by
  show (if CDivN i j then _ else _) = _
  rw [if_pos h]
theorem zw_pow {i j : Int} (h : CPow i j) : powF (.int i) (.int j) = some (.int (i ^ j.toNat)) := by
  show (if CPow i j then _ else _) = _
  rw [if_pos h]
def pickM (k : Bool) (m n : M α) : M α := if k = true then m else n
def pickS (k : Bool) (m n : En → Option Rs) : En → Option Rs := if k = true then m else n
theorem zpk_T {m n : M α} (hk : k = true) (g : m E = some (a, E1)) : pickM k m n E = some (a, E1) := by
  unfold pickM
  rw [if_pos hk]
  exact g
theorem zpk_F {m n : M α} (hk : k = false) (g : n E = some (a, E1)) : pickM k m n E = some (a, E1) := by
  unfold pickM
  rw [hk]
  exact g
theorem zps_T {m n : En → Option Rs} (hk : k = true) (g : m E = some R) : pickS k m n E = some R := by
  unfold pickS
  rw [if_pos hk]
  exact g
theorem zps_F {m n : En → Option Rs} (hk : k = false) (g : n E = some R) : pickS k m n E = some R := by
  unfold pickS
  rw [hk]
  exact g
theorem zv_and {m n : M Bool} {b : Bool} (h : m E = some (k, E1)) (g : pickM k n (retM false) E1 = some (b, E2)) : andM m n E = some (b, E2) := zv_bind h g
theorem zv_or {m n : M Bool} {b : Bool} (h : m E = some (k, E1)) (g : pickM k (retM true) n E1 = some (b, E2)) : orM m n E = some (b, E2) := zv_bind h g
theorem zv_andV {m n : M Vl} (h : bindM m boolM E = some (k, E1)) (g : pickM k n (blM false) E1 = some (z, E2)) : andV m n E = some (z, E2) := zv_bind h g
theorem zv_orV {m n : M Vl} (h : bindM m boolM E = some (k, E1)) (g : pickM k (blM true) n E1 = some (z, E2)) : orV m n E = some (z, E2) := zv_bind h g
theorem zv_bl : blM k E = some (.d (.bl k), E) := rfl
theorem zv_if {t : M Bool} {m n : M α} (h : t E = some (k, E1)) (g : pickM k m n E1 = some (a, E2)) : ifM t m n E = some (a, E2) := zv_bind h g
theorem zk_if {t : M Bool} {m n : En → Option Rs} (h : t E = some (k, E1)) (g : pickS k m n E1 = some R) : ifS t m n E = some R := by
  unfold ifS
  rw [h]
  cases k with
  | true => exact g
  | false => exact g
/-! ### statements -/
def seqK (n : En → Option Rs) : Rs → Option Rs
  | .nx E1 => n E1
  | o => some o
theorem zk_nx {n : En → Option Rs} (h : n E = some R) : seqK n (.nx E) = some R := h
theorem zk_rt {n : En → Option Rs} : seqK n (.rt r E) = some (.rt r E) := rfl
theorem zk_bk {n : En → Option Rs} : seqK n (.bk E) = some (.bk E) := rfl
theorem zk_ct {n : En → Option Rs} : seqK n (.ct E) = some (.ct E) := rfl
theorem zk_seq {m n : En → Option Rs} (h : m E = some Q) (g : seqK n Q = some R) : seqS m n E = some R := by
  unfold seqS
  rw [h]
  cases Q with
  | nx E1 => exact g
  | rt r E1 => exact g
  | bk E1 => exact g
  | ct E1 => exact g
theorem zk_conv {m : En → Option Rs} {Q' : Rs} (h : m E = some Q') (e : Q' = Q) : m E = some Q := by rw [h, e]
theorem zk_nil : nilS E = some (.nx E) := rfl
theorem zk_set {i : Nat} {m : M Vl} {sl : List (Option Vl)} {ce : List Ce} (h : m E = some (r, ⟨sl, ce⟩)) : setS i m E = some (.nx ⟨sl.set i (some r), ce⟩) := by
  unfold setS
  rw [h]
  rfl
theorem zk_set2 {i j : Nat} {m : M (List Vl)} {sl : List (Option Vl)} {ce : List Ce} (h : m E = some ([x, y], ⟨sl, ce⟩)) : set2S i j m E = some (.nx ⟨(sl.set i (some x)).set j (some y), ce⟩) := by
  unfold set2S
  rw [h]
  rfl
theorem zk_drop {m : M Vl} (h : m E = some (r, E1)) : dropS m E = some (.nx E1) := by
  unfold dropS
  rw [h]
theorem zk_ret {m : M Vl} (h : m E = some (r, E1)) : retS m E = some (.rt r E1) := by
  unfold retS
  rw [h]
theorem zk_ifT {t : M Bool} {m n : En → Option Rs} (h : t E = some (k, E1)) (hk : k = true) (g : m E1 = some R) : ifS t m n E = some R := by
  unfold ifS
  rw [h]
  show (if k = true then m E1 else n E1) = _
  rw [if_pos hk]
  exact g
theorem zk_ifF {t : M Bool} {m n : En → Option Rs} (h : t E = some (k, E1)) (hk : k = false) (g : n E1 = some R) : ifS t m n E = some R := by
  unfold ifS
  rw [h]
  show (if k = true then m E1 else n E1) = _
  rw [hk]
  exact g
theorem zk_aug {i : Nat} {f : Int → Int → Int} {m : M Vl} {p q : Int} {sl : List (Option Vl)} {ce : List Ce} (h0 : E.sl[i]? = some (some (.d (.int p)))) (h : m E = some (.d (.int q), ⟨sl, ce⟩)) : augS i f m E = some (.nx ⟨sl.set i (some (.d (.int (f p q)))), ce⟩) := by
  unfold augS
  rw [h0, h]
  rfl
theorem zk_for {i : M (List Dt)} {g : Vl → En → Option En} {m : En → Option Rs} {ds : List Dt} (h : i E = some (ds, E1)) (q : forL g m ds E1 = some R) : forS i g m E = some R := by
  unfold forS
  rw [h]
  exact q
theorem zk_whF {t : M Bool} {m : En → Option Rs} {n : Nat} {sl : En} (h : t E = some (k, E1)) (hk : k = false) (e : E1 = sl) : whileS t m (n + 1) E = some (.nx sl) := by
  subst hk e
  unfold whileS
  rw [h]
theorem zk_whT {t : M Bool} {m : En → Option Rs} {n : Nat} (h : t E = some (k, E1)) (hk : k = true) (g : m E1 = some (.nx E2)) (q : whileS t m n E2 = some R) : whileS t m (n + 1) E = some R := by
  subst hk
  unfold whileS
  rw [h]
  show (match m E1 with
      | some (.nx E2) => whileS t m n E2
      | some (.ct E2) => whileS t m n E2
      | some (.bk E2) => some (.nx E2)
      | some (.rt r E2) => some (.rt r E2)
      | none => none) = _
  rw [g]
  exact q
theorem zk_setI {m mo mi : M Vl} {n : Nat} {j : Int} {xs : List Dt} {c : Nat} {sl : List (Option Vl)} {ce : List Ce} (h : m E = some (.d d, E1)) (ho : mo E1 = some (.c c, E2)) (hi : mi E2 = some (.d (.int j), ⟨sl, ce⟩)) (hc : ce[c]? = some (.lst xs)) (hj : ixN xs.length j = some n) :
    setIS m mo mi E = some (.nx ⟨sl, ce.set c (.lst (xs.set n d))⟩) := by
  unfold setIS
  rw [zv_bind h (zv_bind ho (zv_bind hi (zv_bind (E1 := ⟨sl, ce⟩) (zv_fzD (d := d)) (show onC _ (.c c) ⟨sl, ce⟩ = some (.d .non, ⟨sl, ce.set c (.lst (xs.set n d))⟩) from by
    show (match ce[c]? with
      | some (.lst xs) => match (ixN xs.length j).map fun n => (Dt.non, xs.set n d) with
        | some (d, ys) => some (Vl.d d, (⟨sl, ce.set c (.lst ys)⟩ : En))
        | none => none
      | _ => none) = _
    rw [hc]
    simp only [hj, Option.map_some]))))]
/-! ### a whole def -/
theorem zf_rt {nl : Nat} {m : En → Option Rs} {ce ce' : List Ce} (h : m ⟨rs.map some ++ List.replicate nl none, ce⟩ = some (.rt r E)) (g : trimC ce.length r E.ce = some (z, ce')) : fnOf nl m rs ce = some (z, ce') := by
  unfold fnOf
  rw [h]
  exact g
theorem zf_nx {nl : Nat} {m : En → Option Rs} {ce ce' : List Ce} (h : m ⟨rs.map some ++ List.replicate nl none, ce⟩ = some (.nx E)) (g : trimC ce.length (.d .non) E.ce = some (z, ce')) : fnOf nl m rs ce = some (z, ce') := by
  unfold fnOf
  rw [h]
  exact g
theorem trim_d {n : Nat} {ce ce' : List Ce} (h : ce.take n = ce') : trimC n (.d d) ce = some (.d d, ce') := by
  subst h
  rfl
theorem trim_new {ce : List Ce} {c : Ce} {n : Nat} (h : ce.length = n) : trimC n (.c n) (ce ++ [c]) = some (.c n, ce ++ [c]) := by
  unfold trimC
  subst h
  show (if ce.length < ce.length then _ else _) = _
  rw [if_neg (Nat.lt_irrefl _), get_new, List.take_left']
  rfl
/-! ### loops and comprehensions by what holds between two turns -/
def turnC (own : List Nat) (k : Nat) (g : Vl → En → Option En) (t : M Bool) (m : M Vl) (d : Dt) (E : En) : Option En := match g (.d d) (wipeE own E) with
    | some E1 => match t E1 with
      | some (true, E2) => match bindM m fzM E2 with
        | some (x, E4) => match E4.ce[k]? with
          | some (.lst acc) => if acc.length < 100000 then some ⟨E4.sl, E4.ce.set k (.lst (acc ++ [x]))⟩ else none
          | _ => none
        | none => none
      | some (false, E2) => some E2
      | none => none
    | none => none
theorem compL_cons {own : List Nat} {k : Nat} {g : Vl → En → Option En} {t : M Bool} {m : M Vl} {d : Dt} {ds : List Dt} {E : En} : compL own k g t m (d :: ds) E = match turnC own k g t m d E with
    | some E1 => compL own k g t m ds E1
    | none => none := by
  unfold turnC
  conv => lhs; unfold compL
  cases h0 : g (.d d) (wipeE own E) with
  | none => rfl
  | some E1 =>
    simp only
    cases h1 : t E1 with
    | none => rfl
    | some p =>
      obtain ⟨b, E2⟩ := p
      cases b with
      | false => rfl
      | true =>
        simp only
        cases h : bindM m fzM E2 with
        | none => rfl
        | some p =>
          obtain ⟨x, E4⟩ := p
          simp only
          cases h2 : E4.ce[k]? with
          | none => rfl
          | some c =>
            cases c with
            | dead => rfl
            | pin o => rfl
            | lst acc =>
              by_cases hz : acc.length < 100000
              · simp only [if_pos hz]
              · simp only [if_neg hz]
theorem comp_inv {own : List Nat} {k : Nat} {g : Vl → En → Option En} {t : M Bool} {m : M Vl} (P : Nat → En → Prop) : ∀ (ds : List Dt) (i0 : Nat) (E : En), P i0 E →
    (∀ i d E, ds[i]? = some d → P (i0 + i) E → ∃ E1, turnC own k g t m d E = some E1 ∧ P (i0 + i + 1) E1) → ∃ E2, compL own k g t m ds E = some E2 ∧ P (i0 + ds.length) E2
  | [], i0, E, h0, _ => ⟨E, rfl, h0⟩
  | d :: ds, i0, E, h0, hs => by
    obtain ⟨E1, e1, p1⟩ := hs 0 d E rfl h0
    obtain ⟨E2, e2, p2⟩ := comp_inv P ds (i0 + 1) E1 p1 fun i d E hd hp => by
      have e : i0 + 1 + i = i0 + (i + 1) := by omega
      rw [e] at hp ⊢
      exact hs (i + 1) d E hd hp
    refine ⟨E2, by rw [compL_cons, e1]; exact e2, ?_⟩
    have e : i0 + (d :: ds).length = i0 + 1 + ds.length := by rw [List.length_cons]; omega
    rw [e]
    exact p2
theorem zt_yes {own : List Nat} {c : Nat} {g : Vl → En → Option En} {t : M Bool} {m : M Vl} {d : Dt} {E E1 E2 E3 : En} {acc : List Dt} {x : Dt} {r : Vl} {sl : List (Option Vl)} {ce : List Ce} (hg : g (.d d) (wipeE own E) = some E1) (ht : t E1 = some (true, E2)) (hm : m E2 = some (r, E3)) (hf : fzM r E3 = some (x, ⟨sl, ce⟩))
    (hc : ce[c]? = some (.lst acc)) (hl : acc.length < 100000) : turnC own c g t m d E = some ⟨sl, ce.set c (.lst (acc ++ [x]))⟩ := by
  unfold turnC
  rw [hg]
  show (match t E1 with
      | some (true, E2) => _
      | some (false, E2) => _
      | none => none) = _
  rw [ht]
  show (match bindM m fzM E2 with
          | some (x, E4) => _
          | none => none) = _
  rw [zv_bind hm hf]
  show (match ce[c]? with
          | some (.lst acc) => if acc.length < 100000 then some (⟨sl, ce.set c (.lst (acc ++ [x]))⟩ : En) else none
          | _ => none) = _
  rw [hc]
  show (if _ then _ else _) = _
  rw [if_pos hl]
theorem zt_no {own : List Nat} {c : Nat} {g : Vl → En → Option En} {t : M Bool} {m : M Vl} {d : Dt} {E E1 E2 : En} (hg : g (.d d) (wipeE own E) = some E1) (ht : t E1 = some (false, E2)) : turnC own c g t m d E = some E2 := by
  unfold turnC
  rw [hg]
  show (match t E1 with
      | some (true, E2) => _
      | some (false, E2) => _
      | none => none) = _
  rw [ht]
theorem zv_comp {own : List Nat} {i : M (List Dt)} {g : Vl → En → Option En} {t : M Bool} {m : M Vl} {ds : List Dt} {E E2 : En} {sl : List (Option Vl)} {ce : List Ce} (h : i E = some (ds, ⟨sl, ce⟩)) (hc : compL own ce.length g t m ds ⟨sl, ce ++ [.lst []]⟩ = some E2) :
    compM own i g t m E = some (.c ce.length, ⟨bring sl E2.sl own, E2.ce⟩) := by
  unfold compM
  rw [h]
  show (match compL own ce.length g t m ds ⟨sl, ce ++ [.lst []]⟩ with
    | some E2 => some (Vl.c ce.length, (⟨bring sl E2.sl own, E2.ce⟩ : En))
    | none => none) = _
  rw [hc]
/-- which turns give, and what -/
def givenD (n : Nat) (b : Nat → Bool) (f : Nat → Dt) : List Dt := ((List.range n).filter b).map f
theorem givenD_yes {n : Nat} {b : Nat → Bool} {f : Nat → Dt} (h : b n = true) : givenD (n + 1) b f = givenD n b f ++ [f n] := by
  unfold givenD
  rw [List.range_succ, List.filter_append, List.map_append, List.filter_cons, if_pos h] <;> rfl
theorem givenD_no {n : Nat} {b : Nat → Bool} {f : Nat → Dt} (h : b n = false) : givenD (n + 1) b f = givenD n b f := by
  unfold givenD
  rw [List.range_succ, List.filter_append, List.map_append, List.filter_cons, if_neg (by rw [h]; decide)]
  show _ ++ [] = _
  rw [List.append_nil]
theorem givenD_len (n : Nat) (b : Nat → Bool) (f : Nat → Dt) : (givenD n b f).length ≤ n := by
  unfold givenD
  rw [List.length_map]
  have h := List.length_filter_le b (List.range n)
  rw [List.length_range] at h
  exact h
theorem givenD_all {n : Nat} {f : Nat → Dt} : givenD n (fun _ => true) f = (List.range n).map f := by
  unfold givenD
  rw [List.filter_eq_self.mpr (fun _ _ => rfl)]
theorem get_mid {α : Type} (l : List α) (x : α) (r : List α) : (l ++ [x] ++ r)[l.length]? = some x := by simp
theorem set_mid {α : Type} (l : List α) (x y : α) (r : List α) : (l ++ [x] ++ r).set l.length y = l ++ [y] ++ r := by
  rw [List.set_append_left _ _ (by simp), set_new]
theorem comp_gen {v : Nat} {mi : M (List Dt)} {t : M Bool} {m : M Vl} {ds : List Dt} {E : En} {sl : List (Option Vl)} {ce : List Ce} (b : Nat → Bool) (f : Nat → Dt) (hi : mi E = some (ds, ⟨sl, ce⟩)) (hv : v < sl.length) (hn : ds.length < 100000)
    (hs : ∀ (i : Nat) (d : Dt) (c : Ce) (gs : List Ce), ds[i]? = some d → ∃ gs', t ⟨sl.set v (some (.d d)), ce ++ [c] ++ gs⟩ = some (b i, ⟨sl.set v (some (.d d)), ce ++ [c] ++ gs'⟩) ∧ (b i = true → ∃ gs'', m ⟨sl.set v (some (.d d)), ce ++ [c] ++ gs'⟩ = some (.d (f i), ⟨sl.set v (some (.d d)), ce ++ [c] ++ gs''⟩))) :
    ∃ gs, compM [v] mi (nameG v) t m E = some (.c ce.length, ⟨sl, ce ++ [.lst (givenD ds.length b f)] ++ gs⟩) := by
  obtain ⟨E2, ec, z, gs, e⟩ := comp_inv (own := [v]) (k := ce.length) (g := nameG v) (t := t) (m := m) (fun i E => ∃ (z : Option Vl) (gs : List Ce), E = ⟨sl.set v z, ce ++ [.lst (givenD i b f)] ++ gs⟩) ds 0 ⟨sl, ce ++ [.lst []]⟩
    ⟨sl[v]'hv, [], by rw [List.append_nil, List.set_getElem_self]; rfl⟩ (fun i d E hd hp => by
      obtain ⟨z, gs, rfl⟩ := hp
      rw [Nat.zero_add]
      obtain ⟨gs', ht, hm⟩ := hs i d (.lst (givenD i b f)) gs hd
      have hg : nameG v (.d d) (wipeE [v] ⟨sl.set v z, ce ++ [.lst (givenD i b f)] ++ gs⟩) = some ⟨sl.set v (some (.d d)), ce ++ [.lst (givenD i b f)] ++ gs⟩ := by
        show some (En.mk (((sl.set v z).set v none).set v (some (.d d))) _) = _
        rw [List.set_set, List.set_set]
        rfl
      cases hb : b i with
      | true =>
        rw [hb] at ht
        obtain ⟨gs'', hm⟩ := hm hb
        have hl := givenD_len i b f
        have hi2 : i < ds.length := (List.getElem?_eq_some_iff.mp hd).1
        refine ⟨_, zt_yes hg ht hm zv_fzD (get_mid _ _ _) (by omega), some (.d d), gs'', ?_⟩
        rw [set_mid, givenD_yes hb]
      | false =>
        rw [hb] at ht
        exact ⟨_, zt_no hg ht, some (.d d), gs', by rw [givenD_no hb]⟩)
  rw [Nat.zero_add] at e
  refine ⟨gs, ?_⟩
  rw [zv_comp hi ec, e]
  have hb : bring sl (sl.set v z) [v] = sl := by
    show (sl.set v z).set v (sl[v]?.getD none) = sl
    rw [List.set_set, List.getElem?_eq_getElem hv]
    exact List.set_getElem_self hv
  rw [hb]
/-- a loop whose turns go on -/
theorem for_inv {g : Vl → En → Option En} {m : En → Option Rs} (P : Nat → En → Prop) : ∀ (ds : List Dt) (i0 : Nat) (E : En), P i0 E →
    (∀ i d E, ds[i]? = some d → P (i0 + i) E → ∃ E1 E2, g (.d d) E = some E1 ∧ m E1 = some (.nx E2) ∧ P (i0 + i + 1) E2) → ∃ E2, forL g m ds E = some (.nx E2) ∧ P (i0 + ds.length) E2
  | [], i0, E, h0, _ => ⟨E, rfl, h0⟩
  | d :: ds, i0, E, h0, hs => by
    obtain ⟨E1, E2, e1, e2, p1⟩ := hs 0 d E rfl h0
    obtain ⟨E3, e3, p2⟩ := for_inv P ds (i0 + 1) E2 p1 fun i d E hd hp => by
      have e : i0 + 1 + i = i0 + (i + 1) := by omega
      rw [e] at hp ⊢
      exact hs (i + 1) d E hd hp
    refine ⟨E3, ?_, ?_⟩
    · unfold forL
      rw [e1]
      show (match m E1 with
        | some (.nx E2) => forL g m ds E2
        | some (.ct E2) => forL g m ds E2
        | some (.bk E2) => some (.nx E2)
        | some (.rt r E2) => some (.rt r E2)
        | none => none) = _
      rw [e2]
      exact e3
    · have e : i0 + (d :: ds).length = i0 + 1 + ds.length := by rw [List.length_cons]; omega
      rw [e]
      exact p2
theorem rng_len (lo : Int) (n : Nat) : (rngL lo n).length = n := by simp [rngL]
theorem rng_at {lo : Int} {n i : Nat} {d : Dt} (h : (rngL lo n)[i]? = some d) : i < n ∧ d = .int (lo + (i : Int)) := by
  have hi : i < n := by
    have := (List.getElem?_eq_some_iff.mp h).1
    rw [rng_len] at this
    exact this
  refine ⟨hi, ?_⟩
  unfold rngL at h
  rw [List.getElem?_map, List.getElem?_range hi] at h
  exact (Option.some.inj h).symm
theorem toPA_ints : ∀ bs : List Int, toPA (bs.map Dt.int) = some (bs.map PyData.int)
  | [] => rfl
  | b :: bs => by
    show (match toP (.int b), toPA (bs.map Dt.int) with
      | some p, some ps => some (p :: ps)
      | _, _ => none) = _
    rw [toPA_ints bs]
    rfl
theorem lay_ints : ∀ bs : List Int, PyData.canLayAll0 (bs.map PyData.int) = true
  | [] => by simp [PyData.canLayAll0]
  | b :: bs => by simp [PyData.canLayAll0, PyData.canLay0, lay_ints bs]
theorem dep_ints : ∀ bs : List Int, PyData.depthAll (bs.map PyData.int) ≤ 1
  | [] => by simp [PyData.depthAll]
  | b :: bs => by
    have := dep_ints bs
    simp only [List.map_cons, PyData.depthAll, PyData.depth]
    omega
theorem eqv_ints : ∀ bs cs : List Int, PyData.eqvAll (bs.map PyData.int) (cs.map PyData.int) = decide (bs = cs)
  | [], [] => by simp [PyData.eqvAll]
  | [], c :: cs => by simp [PyData.eqvAll]
  | b :: bs, [] => by simp [PyData.eqvAll]
  | b :: bs, c :: cs => by
    simp only [List.map_cons, PyData.eqvAll, PyData.eqv, eqv_ints bs cs]
    by_cases h1 : b = c <;> by_cases h2 : bs = cs <;> simp [h1, h2]
theorem sh_tup {ps : List PyData} (h : PyData.canLayAll0 ps = true) (hd : PyData.depthAll ps ≤ 60) : SeqAt.shaped (.tuple ps) = true := by
  show (PyData.canLay0 (.tuple ps) && decide (PyData.depth (.tuple ps) ≤ 64)) = true
  rw [Bool.and_eq_true]
  refine ⟨by simp only [PyData.canLay0]; exact h, decide_eq_true ?_⟩
  simp only [PyData.depth]
  omega
theorem sh_lst {ps : List PyData} (h : PyData.canLayAll0 ps = true) (hd : PyData.depthAll ps ≤ 60) : SeqAt.shaped (.list ps) = true := by
  show (PyData.canLay0 (.list ps) && decide (PyData.depth (.list ps) ≤ 64)) = true
  rw [Bool.and_eq_true]
  refine ⟨by simp only [PyData.canLay0]; exact h, decide_eq_true ?_⟩
  simp only [PyData.depth]
  omega
theorem zq_intsL {bs cs : List Int} : eqd (.lst (bs.map Dt.int)) (.lst (cs.map Dt.int)) = some (decide (bs = cs)) := by
  unfold eqd
  have e1 : toP (.lst (bs.map Dt.int)) = some (.list (bs.map PyData.int)) := by
    rw [toP, toPA_ints]
    rfl
  have e2 : toP (.lst (cs.map Dt.int)) = some (.list (cs.map PyData.int)) := by
    rw [toP, toPA_ints]
    rfl
  rw [e1, e2]
  have s1 := sh_lst (lay_ints bs) (by have := dep_ints bs; omega)
  have s2 := sh_lst (lay_ints cs) (by have := dep_ints cs; omega)
  show (if _ then _ else _) = _
  rw [if_pos ⟨s1, s2⟩]
  simp only [PyData.eqv, eqv_ints]
theorem cut_ev {β : Type} {P : Prop} (x : Option β) {r : β} (h : x = some r) (k : x = some r → P) : P := k h
theorem zw_abs {i : Int} : absD (.int i) = some (.int (if i < 0 then -i else i)) := rfl
theorem zw_intI {i : Int} : intD (.int i) = some (.int i) := rfl
theorem zw_intB {b : Bool} : intD (.bl b) = some (.int (if b then 1 else 0)) := rfl
theorem zq_int {i j : Int} : eqd (.int i) (.int j) = some (i == j) := rfl
theorem zq_bl {i j : Bool} : eqd (.bl i) (.bl j) = some (i == j) := rfl
theorem toPA_bls : ∀ bs : List Bool, toPA (bs.map Dt.bl) = some (bs.map PyData.bool)
  | [] => rfl
  | b :: bs => by
    show (match toP (.bl b), toPA (bs.map Dt.bl) with
      | some p, some ps => some (p :: ps)
      | _, _ => none) = _
    rw [toPA_bls bs]
    rfl
theorem lay_bls : ∀ bs : List Bool, PyData.canLayAll0 (bs.map PyData.bool) = true
  | [] => by simp [PyData.canLayAll0]
  | b :: bs => by simp [PyData.canLayAll0, PyData.canLay0, lay_bls bs]
theorem dep_bls : ∀ bs : List Bool, PyData.depthAll (bs.map PyData.bool) ≤ 1
  | [] => by simp [PyData.depthAll]
  | b :: bs => by
    have := dep_bls bs
    simp only [List.map_cons, PyData.depthAll, PyData.depth]
    omega
theorem eqv_bls : ∀ bs cs : List Bool, PyData.eqvAll (bs.map PyData.bool) (cs.map PyData.bool) = decide (bs = cs)
  | [], [] => by simp [PyData.eqvAll]
  | [], c :: cs => by simp [PyData.eqvAll]
  | b :: bs, [] => by simp [PyData.eqvAll]
  | b :: bs, c :: cs => by
    simp only [List.map_cons, PyData.eqvAll, PyData.eqv, eqv_bls bs cs]
    by_cases h1 : b = c <;> by_cases h2 : bs = cs <;> simp [h1, h2]
theorem zq_blsT {bs cs : List Bool} : eqd (.tup (bs.map Dt.bl)) (.tup (cs.map Dt.bl)) = some (decide (bs = cs)) := by
  unfold eqd
  have e1 : toP (.tup (bs.map Dt.bl)) = some (.tuple (bs.map PyData.bool)) := by
    rw [toP, toPA_bls]
    rfl
  have e2 : toP (.tup (cs.map Dt.bl)) = some (.tuple (cs.map PyData.bool)) := by
    rw [toP, toPA_bls]
    rfl
  rw [e1, e2]
  have s1 := sh_tup (lay_bls bs) (by have := dep_bls bs; omega)
  have s2 := sh_tup (lay_bls cs) (by have := dep_bls cs; omega)
  show (if _ then _ else _) = _
  rw [if_pos ⟨s1, s2⟩]
  simp only [PyData.eqv, eqv_bls]
theorem zq_blsL {bs cs : List Bool} : eqd (.lst (bs.map Dt.bl)) (.lst (cs.map Dt.bl)) = some (decide (bs = cs)) := by
  unfold eqd
  have e1 : toP (.lst (bs.map Dt.bl)) = some (.list (bs.map PyData.bool)) := by
    rw [toP, toPA_bls]
    rfl
  have e2 : toP (.lst (cs.map Dt.bl)) = some (.list (cs.map PyData.bool)) := by
    rw [toP, toPA_bls]
    rfl
  rw [e1, e2]
  have s1 := sh_lst (lay_bls bs) (by have := dep_bls bs; omega)
  have s2 := sh_lst (lay_bls cs) (by have := dep_bls cs; omega)
  show (if _ then _ else _) = _
  rw [if_pos ⟨s1, s2⟩]
  simp only [PyData.eqv, eqv_bls]
end
end Hk
/-! Hk8: a law's own promise. -/
namespace Hk
open PySem PySem.Spec PyProof.Rows L2 Evl
def spLaw (K : PySem.W.Frag) : Sp := fun vs H Q _ => ∃ (a : Addr) (ns : List Int), vs = [.ref a] ∧ SqL K H a (ns.map V.int) ∧ ns.length ≤ 63 ∧ ∀ H', Q (.bl true) H'
theorem rpA_ints {K : PySem.W.Frag} {H : Hp} : ∀ ns : List Int, RpA K H (ns.map Dt.int) (ns.map V.int)
  | [] => rfl
  | n :: ns => ⟨.int n, ns.map V.int, rfl, rfl, rpA_ints ns⟩
theorem law_of {K : PySem.W.Frag} {G : Fn} (hG : ∀ ns : List Int, ns.length ≤ 63 → G [.d (.sq (ns.map .int))] [] = some (.d (.bl true), [])) : ∀ vs H Q E, spLaw K vs H Q E → spM K 1 G vs H Q E := fun vs H Q E h => by
  obtain ⟨a, ns, rfl, hS, hl, k⟩ := h
  refine ⟨rfl, [], H, [], [.d (.sq (ns.map .int))], .d (.bl true), [], ⟨Ex.refl H, rfl, fun k c a h => by simp at h, fun j k a c e h => by simp at h⟩, .cons ⟨a, ns.map V.int, rfl, hS, rpA_ints ns⟩ .nil, hG ns hl, fun μ' Hd' H' v g w r => ?_⟩
  cases (show v = .bl true from r)
  exact k H'
end Hk
namespace K07
open PySem PySem.Spec PyProof.Rows L2 Evl Hk
/-! ### the text by places -/
def topS (i : Nat) : Stmt := PySem.Challenge.pw_boxfall_k07_plain_rows.main.body.getD i (.Pass ⟨0, 0, 0, 0⟩)
abbrev s_plain : Stmt := topS 1
abbrev N_plain : List Str := ["row", "end"]
theorem sc_plain : FnScope N_plain ["row"] (defScope s_plain) := ⟨rfl, rfl, rfl, by decide +kernel, rfl, by decide +kernel, by decide +kernel⟩
abbrev s_height : Stmt := topS 2
abbrev N_height : List Str := ["row", "shortest"]
theorem sc_height : FnScope N_height ["row"] (defScope s_height) := ⟨rfl, rfl, rfl, by decide +kernel, rfl, by decide +kernel, by decide +kernel⟩
abbrev s__law_stream : Stmt := topS 4
abbrev N__law_stream : List Str := ["_law_script", "_law_k", "_law_cell"]
theorem sc__law_stream : FnScope N__law_stream ["_law_script", "_law_k"] (defScope s__law_stream) := ⟨rfl, rfl, rfl, by decide +kernel, rfl, by decide +kernel, by decide +kernel⟩
abbrev s__law_draw : Stmt := topS 5
abbrev N__law_draw : List Str := ["_law_stream_here", "_law_many", "_law_digit", "_law_spread"]
theorem sc__law_draw : FnScope N__law_draw ["_law_stream_here", "_law_many"] (defScope s__law_draw) := ⟨rfl, rfl, rfl, by decide +kernel, rfl, by decide +kernel, by decide +kernel⟩
abbrev s__law_row : Stmt := topS 6
abbrev N__law_row : List Str := ["_law_stream_here", "_law_most", "_law_k"]
theorem sc__law_row : FnScope N__law_row ["_law_stream_here", "_law_most"] (defScope s__law_row) := ⟨rfl, rfl, rfl, by decide +kernel, rfl, by decide +kernel, by decide +kernel⟩
abbrev s__law_bit : Stmt := topS 7
abbrev N__law_bit : List Str := ["_law_row_here", "_law_level"]
theorem sc__law_bit : FnScope N__law_bit ["_law_row_here", "_law_level"] (defScope s__law_bit) := ⟨rfl, rfl, rfl, by decide +kernel, rfl, by decide +kernel, by decide +kernel⟩
abbrev s__law_plain : Stmt := topS 8
abbrev N__law_plain : List Str := ["_law_row_here"]
theorem sc__law_plain : FnScope N__law_plain ["_law_row_here"] (defScope s__law_plain) := ⟨rfl, rfl, rfl, by decide +kernel, rfl, by decide +kernel, by decide +kernel⟩
abbrev s_law : Stmt := topS 9
abbrev N_law : List Str := ["_law_script", "_law_turn", "_law_stream_here", "_law_row_here", "_law_handed", "_law_found", "_law_sure", "_law_level", "_law_k"]
theorem sc_law : FnScope N_law ["_law_script"] (defScope s_law) := ⟨rfl, rfl, rfl, by decide +kernel, rfl, by decide +kernel, by decide +kernel⟩
/-! ### what each def does -/
def m_plain : En → Option Rs :=
  (seqS (setS 1 (bindM (consM (vM 0) (retM [])) (fn1 lenD)))
    (seqS (whileS (andM (bindM (bindM (vM 1) fun x => bindM (retM (.d (.int 1))) (op2 gtF x)) boolM) (bindM (bindM (bindM (vM 0) fun x => bindM (bindM (vM 1) fun x => bindM (retM (.d (.int 1))) (op2 subF x)) (ixF x)) fun x => bindM (bindM (vM 0) fun x => bindM (bindM (vM 1) fun x => bindM (retM (.d (.int 2))) (op2 subF x)) (ixF x)) (op2 eqF x)) boolM))
    (augS 1 (fun i j => i - j) (retM (.d (.int 1)))) 100000)
    (retS (bindM (consM (bindM (vM 0) fun x => bindM (retM none) fun l => bindM (partM (vM 1)) fun h => slF x l h) (retM [])) (tupleF)))))
def f_plain : Fn := fnOf 1 (m_plain)
def m_height (g_plain : Fn) : En → Option Rs :=
  (seqS (setS 1 (callM g_plain (consM (fzV (vM 0)) (retM []))))
    (seqS (ifS (notM (bindM (bindM (vM 1) fun x => bindM (negM (retM (.d (.int 1)))) (ixF x)) truM))
    (retS (retM (.d .non)))
    nilS)
    (retS (bindM (bindM (consM (vM 1) (retM [])) (fn1 lenD)) fun x => bindM (retM (.d (.int 1))) (op2 subF x)))))
def f_height (g_plain : Fn) : Fn := fnOf 1 (m_height g_plain)
def m__law_stream : En → Option Rs :=
  (seqS (setS 2 (ifM (bindM (bindM (vM 1) fun x => bindM (bindM (consM (vM 0) (retM [])) (fn1 lenD)) (op2 ltF x)) boolM) (bindM (consM (bindM (vM 0) fun x => bindM (vM 1) (ixF x)) (retM [])) (fn1 absD)) (retM (.d (.int 0)))))
    (retS (lstM (consM (ifM (bindM (bindM (vM 2) fun x => bindM (bindM (retM (.d (.int 10))) fun x => bindM (retM (.d (.int 18))) (op2 powF x)) (op2 geF x)) boolM) (vM 2) (retM (.d (.int 0)))) (consM (bindM (bindM (bindM (consM (vM 2) (retM [])) (fn1 intD)) fun x => bindM (retM (.d (.int 2147483647))) (op2 modF x)) fun x => bindM (bindM (retM (.d (.int 31))) fun x => bindM (vM 1) (mulF x)) (addF x)) (consM (retM (.d (.int 0))) (retM [])))))))
def f__law_stream : Fn := fnOf 1 (m__law_stream)
def m__law_draw : En → Option Rs :=
  (seqS (ifS (bindM (bindM (bindM (vM 0) fun x => bindM (retM (.d (.int 0))) (ixF x)) fun x => bindM (retM (.d (.int 0))) (op2 gtF x)) boolM)
    (seqS (setS 2 (bindM (bindM (consM (bindM (vM 0) fun x => bindM (retM (.d (.int 0))) (ixF x)) (retM [])) (fn1 intD)) fun x => bindM (vM 1) (op2 modF x)))
    (seqS (setIS (bindM (bindM (vM 0) fun x => bindM (retM (.d (.int 0))) (ixF x)) fun x => bindM (vM 1) (op2 fdivF x)) (vM 0) (retM (.d (.int 0))))
    (retS (vM 2))))
    nilS)
    (seqS (setIS (bindM (bindM (vM 0) fun x => bindM (retM (.d (.int 2))) (ixF x)) fun x => bindM (retM (.d (.int 1))) (addF x)) (vM 0) (retM (.d (.int 2))))
    (seqS (setS 3 (bindM (bindM (bindM (consM (bindM (bindM (bindM (vM 0) fun x => bindM (retM (.d (.int 1))) (ixF x)) fun x => bindM (bindM (retM (.d (.int 7919))) fun x => bindM (bindM (vM 0) fun x => bindM (retM (.d (.int 2))) (ixF x)) (mulF x)) (addF x)) fun x => bindM (retM (.d (.int 104729))) (addF x)) (retM [])) (fn1 intD)) fun x => bindM (retM (.d (.int 5))) (op2 powF x)) fun x => bindM (retM (.d (.int 2147483647))) (op2 modF x)))
    (retS (bindM (bindM (bindM (bindM (consM (bindM (bindM (vM 3) fun x => bindM (bindM (vM 0) fun x => bindM (retM (.d (.int 2))) (ixF x)) (addF x)) fun x => bindM (retM (.d (.int 40692))) (mulF x)) (retM [])) (fn1 intD)) fun x => bindM (retM (.d (.int 2147483629))) (op2 modF x)) fun x => bindM (retM (.d (.int 7))) (op2 fdivF x)) fun x => bindM (vM 1) (op2 modF x))))))
def f__law_draw : Fn := fnOf 2 (m__law_draw)
def m__law_row (g__law_draw : Fn) : En → Option Rs :=
  (retS (bindM (consM (compM [2] (rng1M (consM (bindM (retM (.d (.int 1))) fun x => bindM (callM g__law_draw (consM (vM 0) (consM (fzV (vM 1)) (retM [])))) (addF x)) (retM []))) (nameG 2) (retM true) (bindM (callM g__law_draw (consM (vM 0) (consM (retM (.d (.int 2))) (retM [])))) fun x => bindM (retM (.d (.int 1))) (op2 eqF x))) (retM [])) (tupleF)))
def f__law_row (g__law_draw : Fn) : Fn := fnOf 1 (m__law_row g__law_draw)
def m__law_bit : En → Option Rs :=
  (retS (bindM (vM 0) fun x => bindM (bindM (consM (vM 1) (consM (bindM (bindM (consM (vM 0) (retM [])) (fn1 lenD)) fun x => bindM (retM (.d (.int 1))) (op2 subF x)) (retM []))) (fn2 minD)) (ixF x)))
def f__law_bit : Fn := fnOf 0 (m__law_bit)
def m__law_plain : En → Option Rs :=
  (seqS (setS 0 (bindM (consM (vM 0) (retM [])) (tupleF)))
    (seqS (whileS (andM (bindM (bindM (bindM (consM (vM 0) (retM [])) (fn1 lenD)) fun x => bindM (retM (.d (.int 1))) (op2 gtF x)) boolM) (bindM (bindM (bindM (vM 0) fun x => bindM (negM (retM (.d (.int 1)))) (ixF x)) fun x => bindM (bindM (vM 0) fun x => bindM (negM (retM (.d (.int 2)))) (ixF x)) (op2 eqF x)) boolM))
    (setS 0 (bindM (vM 0) fun x => bindM (retM none) fun l => bindM (partM (negM (retM (.d (.int 1))))) fun h => slF x l h)) 100000)
    (retS (vM 0))))
def f__law_plain : Fn := fnOf 0 (m__law_plain)
def m_law (g__law_stream g__law_row g__law_draw g_plain g__law_plain g__law_bit g_height : Fn) : En → Option Rs :=
  (seqS (forS (rng1M (consM (retM (.d (.int 10))) (retM []))) (nameG 1)
    (seqS (setS 2 (callM g__law_stream (consM (fzV (vM 0)) (consM (fzV (vM 1)) (retM [])))))
    (seqS (setS 3 (callM g__law_row (consM (vM 2) (consM (retM (.d (.int 12))) (retM [])))))
    (seqS (setS 3 (bindM (vM 3) fun x => bindM (bindM (tupM (consM (bindM (vM 3) fun x => bindM (negM (retM (.d (.int 1)))) (ixF x)) (retM []))) fun x => bindM (callM g__law_draw (consM (vM 2) (consM (retM (.d (.int 18))) (retM [])))) (mulF x)) (addF x)))
    (seqS (setS 4 (ifM (bindM (bindM (callM g__law_draw (consM (vM 2) (consM (retM (.d (.int 2))) (retM [])))) fun x => bindM (retM (.d (.int 0))) (op2 eqF x)) boolM) (bindM (consM (vM 3) (retM [])) (listF)) (vM 3)))
    (seqS (setS 5 (callM g_plain (consM (fzV (vM 4)) (retM []))))
    (seqS (ifS (orM (bindM (bindM (vM 5) fun x => bindM (callM g__law_plain (consM (fzV (vM 3)) (retM []))) (op2 neF x)) boolM) (orM (notM (bindM (bindM (vM 5) (seeF (isiF "tuple"))) truM)) (bindM (bindM (bindM (consM (vM 4) (retM [])) (listF)) fun x => bindM (bindM (consM (vM 3) (retM [])) (listF)) (op2 neF x)) boolM)))
    (retS (retM (.d (.bl false))))
    nilS)
    (seqS (ifS (bindM (bindM (compM [7] (rng1M (consM (retM (.d (.int 40))) (retM []))) (nameG 7) (retM true) (callM g__law_bit (consM (fzV (vM 5)) (consM (fzV (vM 7)) (retM []))))) fun x => bindM (compM [7] (rng1M (consM (retM (.d (.int 40))) (retM []))) (nameG 7) (retM true) (callM g__law_bit (consM (fzV (vM 3)) (consM (fzV (vM 7)) (retM []))))) (op2 neF x)) boolM)
    (retS (retM (.d (.bl false))))
    nilS)
    (seqS (setS 6 (compM [7] (rng1M (consM (retM (.d (.int 31))) (retM []))) (nameG 7) (bindM (bindM (consM (compM [8] (rng2M (consM (vM 7) (consM (retM (.d (.int 40))) (retM [])))) (nameG 8) (retM true) (callM g__law_bit (consM (fzV (vM 3)) (consM (fzV (vM 8)) (retM []))))) (retM [])) (fn1 allD)) truM) (vM 7)))
    (ifS (orM (bindM (bindM (callM g_height (consM (fzV (vM 4)) (retM []))) fun x => bindM (ifM (bindM (bindM (vM 6) fun x => bindM (lstM (retM [])) (op2 neF x)) boolM) (bindM (vM 6) fun x => bindM (retM (.d (.int 0))) (ixF x)) (retM (.d .non))) (op2 neF x)) boolM) (bindM (bindM (callM g_height (consM (fzV (vM 4)) (retM []))) (seeF (isiF "bool"))) truM))
    (retS (retM (.d (.bl false))))
    nilS))))))))))
    (retS (retM (.d (.bl true)))))
def f_law (g__law_stream g__law_row g__law_draw g_plain g__law_plain g__law_bit g_height : Fn) : Fn := fnOf 8 (m_law g__law_stream g__law_row g__law_draw g_plain g__law_plain g__law_bit g_height)
/-! ### the names -/
structure Ad where
  a_plain : Addr
  d_plain : FuncData
  a_height : Addr
  d_height : FuncData
  a__law_stream : Addr
  d__law_stream : FuncData
  a__law_draw : Addr
  d__law_draw : FuncData
  a__law_row : Addr
  d__law_row : FuncData
  a__law_bit : Addr
  d__law_bit : FuncData
  a__law_plain : Addr
  d__law_plain : FuncData
  a_law : Addr
  d_law : FuncData
structure Txt (K : PySem.W.Frag) (mg : Str → Option Value) (A : Ad) : Prop where
  F_plain : Fun K "plain" "plain" s_plain A.a_plain A.d_plain
  b_plain : Binds K A.d_plain ["row"] []
  g_plain : mg "plain" = some (.ref A.a_plain)
  F_height : Fun K "height" "height" s_height A.a_height A.d_height
  b_height : Binds K A.d_height ["row"] []
  g_height : mg "height" = some (.ref A.a_height)
  F__law_stream : Fun K "_law_stream" "_law_stream" s__law_stream A.a__law_stream A.d__law_stream
  b__law_stream : Binds K A.d__law_stream ["_law_script", "_law_k"] []
  g__law_stream : mg "_law_stream" = some (.ref A.a__law_stream)
  F__law_draw : Fun K "_law_draw" "_law_draw" s__law_draw A.a__law_draw A.d__law_draw
  b__law_draw : Binds K A.d__law_draw ["_law_stream_here", "_law_many"] []
  g__law_draw : mg "_law_draw" = some (.ref A.a__law_draw)
  F__law_row : Fun K "_law_row" "_law_row" s__law_row A.a__law_row A.d__law_row
  b__law_row : Binds K A.d__law_row ["_law_stream_here", "_law_most"] []
  g__law_row : mg "_law_row" = some (.ref A.a__law_row)
  F__law_bit : Fun K "_law_bit" "_law_bit" s__law_bit A.a__law_bit A.d__law_bit
  b__law_bit : Binds K A.d__law_bit ["_law_row_here", "_law_level"] []
  g__law_bit : mg "_law_bit" = some (.ref A.a__law_bit)
  F__law_plain : Fun K "_law_plain" "_law_plain" s__law_plain A.a__law_plain A.d__law_plain
  b__law_plain : Binds K A.d__law_plain ["_law_row_here"] []
  g__law_plain : mg "_law_plain" = some (.ref A.a__law_plain)
  F_law : Fun K "law" "law" s_law A.a_law A.d_law
  b_law : Binds K A.d_law ["_law_script"] []
  g_law : mg "law" = some (.ref A.a_law)
  z_abs : mg "abs" = none
  z_all : mg "all" = none
  z_bool : mg "bool" = none
  z_int : mg "int" = none
  z_isinstance : mg "isinstance" = none
  z_len : mg "len" = none
  z_list : mg "list" = none
  z_min : mg "min" = none
  z_range : mg "range" = none
  z_tuple : mg "tuple" = none
section
variable {P : Program} {w : World} {K : PySem.W.Frag} {mg : Str → Option Value} {base : Heap} {A : Ad}
theorem ok_plain (T : Txt K mg A) : FnOk P w K mg base CX0 1 A.a_plain A.d_plain ["row"] (spM K 1 (f_plain)) :=
  T.F_plain.ok sc_plain (spM_len rfl) fun cdv A outer s H vs Q E hr h => body_ok (n := 1) (nl := 1)
    (bcons (sset 1 (xlen T.z_len (acons (xv 0) anil)) sc_plain.nd)
    (bcons (swhile 100000 PassesOwn.never (tbool (wand (tcmp op_gt om_gt (xv 1) xint (nomark _)) (wand1 (tcmp (op_eqD hr.units) om_eq (xix (xv 0) (xop op_sub om_sub (xv 1) xint)) (xix (xv 0) (xop op_sub om_sub (xv 1) xint)) (nomark _)))))
    (bone (saug 1 ip_sub xint sc_plain.nd)))
    (bone (sret (xbty call_tupleU cm_tuple T.z_tuple (by decide +kernel) (acons (xsl (xv 0) onone (osome (xv 1))) anil)))))) rfl h
theorem ok_height (T : Txt K mg A) {g_plain : Fn} (G_plain : FnOk P w K mg base CX0 1 A.a_plain A.d_plain ["row"] (spM K 1 g_plain)) : FnOk P w K mg base CX0 2 A.a_height A.d_height ["row"] (spM K 1 (f_height g_plain)) :=
  T.F_height.ok sc_height (spM_len rfl) fun cdv A outer s H vs Q E hr h => body_ok (n := 1) (nl := 1)
    (bcons (sset 1 (xcall G_plain (hr.mono (by decide)) T.g_plain T.F_plain.kp T.b_plain (acons (xfz (xv 0)) anil) (cons_len (nil_len rfl) rfl) pass0) sc_height.nd)
    (bcons (sif (tnot (ttru (xix (xv 1) (xneg xint))))
    (bone (sret xnon))
    bnil)
    (bone (sret (xop op_sub om_sub (xlen T.z_len (acons (xv 1) anil)) xint))))) rfl h
theorem ok__law_stream (T : Txt K mg A) : FnOk P w K mg base CX0 1 A.a__law_stream A.d__law_stream ["_law_script", "_law_k"] (spM K 2 (f__law_stream)) :=
  T.F__law_stream.ok sc__law_stream (spM_len rfl) fun cdv A outer s H vs Q E hr h => body_ok (n := 2) (nl := 1)
    (bcons (sset 2 (xif (tcmp op_lt om_lt (xv 1) (xlen T.z_len (acons (xv 0) anil)) (nomark _)) (xblt call_absU cm_abs T.z_abs (by decide +kernel) (acons (xix (xv 0) (xv 1)) anil)) xint) sc__law_stream.nd)
    (bone (sret (xlst (acons (xif (tcmp op_ge om_ge (xv 2) (xop op_pow om_pow xint xint) (nomark _)) (xv 2) xint) (acons (xop op_addU om_add (xop op_modN om_mod (xbty call_intU cm_int T.z_int (by decide +kernel) (acons (xv 2) anil)) xint) (xop op_mulU om_mul xint (xv 1))) (acons xint anil))))))) rfl h
theorem ok__law_draw (T : Txt K mg A) : FnOk P w K mg base CX0 1 A.a__law_draw A.d__law_draw ["_law_stream_here", "_law_many"] (spM K 2 (f__law_draw)) :=
  T.F__law_draw.ok sc__law_draw (spM_len rfl) fun cdv A outer s H vs Q E hr h => body_ok (n := 2) (nl := 2)
    (bcons (sif (tcmp op_gt om_gt (xix (xv 0) xint) xint (nomark _))
    (bcons (sset 2 (xop op_modN om_mod (xbty call_intU cm_int T.z_int (by decide +kernel) (acons (xix (xv 0) xint) anil)) (xv 1)) sc__law_draw.nd)
    (bcons (ssetI (xop op_fdivN om_fdiv (xix (xv 0) xint) (xv 1)) (xv 0) xint (pg_sub (xv 0).pe xint.pe set_list))
    (bone (sret (xv 2)))))
    bnil)
    (bcons (ssetI (xop op_addU om_add (xix (xv 0) xint) xint) (xv 0) xint (pg_sub (xv 0).pe xint.pe set_list))
    (bcons (sset 3 (xop op_modN om_mod (xop op_pow om_pow (xbty call_intU cm_int T.z_int (by decide +kernel) (acons (xop op_addU om_add (xop op_addU om_add (xix (xv 0) xint) (xop op_mulU om_mul xint (xix (xv 0) xint))) xint) anil)) xint) xint) sc__law_draw.nd)
    (bone (sret (xop op_modN om_mod (xop op_fdivN om_fdiv (xop op_modN om_mod (xbty call_intU cm_int T.z_int (by decide +kernel) (acons (xop op_mulU om_mul (xop op_addU om_add (xv 3) (xix (xv 0) xint)) xint) anil)) xint) xint) (xv 1))))))) rfl h
theorem ok__law_row (T : Txt K mg A) {g__law_draw : Fn} (G__law_draw : FnOk P w K mg base CX0 1 A.a__law_draw A.d__law_draw ["_law_stream_here", "_law_many"] (spM K 2 g__law_draw)) : FnOk P w K mg base CX0 2 A.a__law_row A.d__law_row ["_law_stream_here", "_law_most"] (spM K 2 (f__law_row g__law_draw)) :=
  T.F__law_row.ok sc__law_row (spM_len rfl) fun cdv A outer s H vs Q E hr h => body_ok (n := 2) (nl := 1)
    (bone (sret (xbty call_tupleU cm_tuple T.z_tuple (by decide +kernel) (acons (xcomp (own := [("_law_k", 2)]) rfl sc__law_row.nd (irng1 T.z_range (acons (xop op_addU om_add xint (xcall G__law_draw (hr.mono (by decide)) T.g__law_draw T.F__law_draw.kp T.b__law_draw (acons (xv 0) (acons (xfz (xv 1)) anil)) (cons_len (cons_len (nil_len rfl) rfl) rfl) pass0)) anil)) (blkOk_by (own := [("_law_k", 2)]) (N := N__law_row) (sc := defScope s__law_row) (by decide +kernel)) (fun _ _ _ _ _ => by exact (gcname 2 (by decide) sc__law_row.nd)) (fun _ _ _ _ _ => pnil) (fun _ _ _ _ _ => by apply re_te; (case h => exact (xcmp (op_eqD hr.units) om_eq (xcall G__law_draw (hr.mono (by decide)) T.g__law_draw T.F__law_draw.kp T.b__law_draw (acons (xv 0) (acons xint anil)) (cons_len (cons_len (nil_len rfl) rfl) rfl) pass0) xint (nomark _))); (case q => (dsimp only [Cx.blk] <;> rfl)))) anil)))) rfl h
theorem ok__law_bit (T : Txt K mg A) : FnOk P w K mg base CX0 1 A.a__law_bit A.d__law_bit ["_law_row_here", "_law_level"] (spM K 2 (f__law_bit)) :=
  T.F__law_bit.ok sc__law_bit (spM_len rfl) fun cdv A outer s H vs Q E hr h => body_ok (n := 2) (nl := 0)
    (bone (sret (xix (xv 0) (xblt (call_minU rfl) cm_min2 T.z_min (by decide +kernel) (acons (xv 1) (acons (xop op_sub om_sub (xlen T.z_len (acons (xv 0) anil)) xint) anil)))))) rfl h
theorem ok__law_plain (T : Txt K mg A) : FnOk P w K mg base CX0 1 A.a__law_plain A.d__law_plain ["_law_row_here"] (spM K 1 (f__law_plain)) :=
  T.F__law_plain.ok sc__law_plain (spM_len rfl) fun cdv A outer s H vs Q E hr h => body_ok (n := 1) (nl := 0)
    (bcons (sset 0 (xbty call_tupleU cm_tuple T.z_tuple (by decide +kernel) (acons (xv 0) anil)) sc__law_plain.nd)
    (bcons (swhile 100000 PassesOwn.never (tbool (wand (tcmp op_gt om_gt (xlen T.z_len (acons (xv 0) anil)) xint (nomark _)) (wand1 (tcmp (op_eqD hr.units) om_eq (xix (xv 0) (xneg xint)) (xix (xv 0) (xneg xint)) (nomark _)))))
    (bone (sset 0 (xsl (xv 0) onone (osome (xneg xint))) sc__law_plain.nd)))
    (bone (sret (xv 0))))) rfl h
theorem ok_law (T : Txt K mg A) {g__law_stream : Fn} (G__law_stream : FnOk P w K mg base CX0 1 A.a__law_stream A.d__law_stream ["_law_script", "_law_k"] (spM K 2 g__law_stream)) {g__law_row : Fn} (G__law_row : FnOk P w K mg base CX0 2 A.a__law_row A.d__law_row ["_law_stream_here", "_law_most"] (spM K 2 g__law_row)) {g__law_draw : Fn} (G__law_draw : FnOk P w K mg base CX0 1 A.a__law_draw A.d__law_draw ["_law_stream_here", "_law_many"] (spM K 2 g__law_draw)) {g_plain : Fn} (G_plain : FnOk P w K mg base CX0 1 A.a_plain A.d_plain ["row"] (spM K 1 g_plain)) {g__law_plain : Fn} (G__law_plain : FnOk P w K mg base CX0 1 A.a__law_plain A.d__law_plain ["_law_row_here"] (spM K 1 g__law_plain)) {g__law_bit : Fn} (G__law_bit : FnOk P w K mg base CX0 1 A.a__law_bit A.d__law_bit ["_law_row_here", "_law_level"] (spM K 2 g__law_bit)) {g_height : Fn} (G_height : FnOk P w K mg base CX0 2 A.a_height A.d_height ["row"] (spM K 1 g_height)) : FnOk P w K mg base CX0 3 A.a_law A.d_law ["_law_script"] (spM K 1 (f_law g__law_stream g__law_row g__law_draw g_plain g__law_plain g__law_bit g_height)) :=
  T.F_law.ok sc_law (spM_len rfl) fun cdv A outer s H vs Q E hr h => body_ok (n := 1) (nl := 8)
    (bcons (sfor PassesOwn.never rfl (irng1 T.z_range (acons xint anil)) (gname 1 sc_law.nd)
    (bcons (sset 2 (xcall G__law_stream (hr.mono (by decide)) T.g__law_stream T.F__law_stream.kp T.b__law_stream (acons (xfz (xv 0)) (acons (xfz (xv 1)) anil)) (cons_len (cons_len (nil_len rfl) rfl) rfl) pass0) sc_law.nd)
    (bcons (sset 3 (xcall G__law_row (hr.mono (by decide)) T.g__law_row T.F__law_row.kp T.b__law_row (acons (xv 2) (acons xint anil)) (cons_len (cons_len (nil_len rfl) rfl) rfl) pass0) sc_law.nd)
    (bcons (sset 3 (xop op_addU om_add (xv 3) (xop op_mulU om_mul (xtup (acons (xix (xv 3) (xneg xint)) anil)) (xcall G__law_draw (hr.mono (by decide)) T.g__law_draw T.F__law_draw.kp T.b__law_draw (acons (xv 2) (acons xint anil)) (cons_len (cons_len (nil_len rfl) rfl) rfl) pass0))) sc_law.nd)
    (bcons (sset 4 (xif (tcmp (op_eqD hr.units) om_eq (xcall G__law_draw (hr.mono (by decide)) T.g__law_draw T.F__law_draw.kp T.b__law_draw (acons (xv 2) (acons xint anil)) (cons_len (cons_len (nil_len rfl) rfl) rfl) pass0) xint (nomark _)) (xbty call_listU cm_list T.z_list (by decide +kernel) (acons (xv 3) anil)) (xv 3)) sc_law.nd)
    (bcons (sset 5 (xcall G_plain (hr.mono (by decide)) T.g_plain T.F_plain.kp T.b_plain (acons (xfz (xv 4)) anil) (cons_len (nil_len rfl) rfl) pass0) sc_law.nd)
    (bcons (sif (tbool (wor (tcmp (op_neD hr.units) om_ne (xv 5) (xcall G__law_plain (hr.mono (by decide)) T.g__law_plain T.F__law_plain.kp T.b__law_plain (acons (xfz (xv 3)) anil) (cons_len (nil_len rfl) rfl) pass0) (nomark _)) (wor (tnot (ttru (xisi T.z_isinstance (xv 5) T.z_tuple (by decide +kernel)))) (wor1 (tcmp (op_neD hr.units) om_ne (xbty call_listU cm_list T.z_list (by decide +kernel) (acons (xv 4) anil)) (xbty call_listU cm_list T.z_list (by decide +kernel) (acons (xv 3) anil)) (nomark _))))))
    (bone (sret xbl))
    bnil)
    (bcons (sif (tcmp (op_neD hr.units) om_ne (xcomp (own := [("_law_level", 7)]) rfl sc_law.nd (irng1 T.z_range (acons xint anil)) (blkOk_by (own := [("_law_level", 7)]) (N := N_law) (sc := defScope s_law) (by decide +kernel)) (fun _ _ _ _ _ => by exact (gcname 7 (by decide) sc_law.nd)) (fun _ _ _ _ _ => pnil) (fun _ _ _ _ _ => by apply re_te; (case h => exact (xcall G__law_bit (hr.mono (by decide)) T.g__law_bit T.F__law_bit.kp T.b__law_bit (acons (xfz (xv 5)) (acons (xfz (xv 7)) anil)) (cons_len (cons_len (nil_len rfl) rfl) rfl) pass0)); (case q => (dsimp only [Cx.blk] <;> rfl)))) (xcomp (own := [("_law_level", 7)]) rfl sc_law.nd (irng1 T.z_range (acons xint anil)) (blkOk_by (own := [("_law_level", 7)]) (N := N_law) (sc := defScope s_law) (by decide +kernel)) (fun _ _ _ _ _ => by exact (gcname 7 (by decide) sc_law.nd)) (fun _ _ _ _ _ => pnil) (fun _ _ _ _ _ => by apply re_te; (case h => exact (xcall G__law_bit (hr.mono (by decide)) T.g__law_bit T.F__law_bit.kp T.b__law_bit (acons (xfz (xv 3)) (acons (xfz (xv 7)) anil)) (cons_len (cons_len (nil_len rfl) rfl) rfl) pass0)); (case q => (dsimp only [Cx.blk] <;> rfl)))) (nomark _))
    (bone (sret xbl))
    bnil)
    (bcons (ssetC (own := [("_law_level", 7)]) 6 rfl sc_law.nd rfl rfl (sw_true rfl rfl rfl (by decide +kernel)) (irng1 T.z_range (acons xint anil)) (blkOk_by (own := [("_law_level", 7)]) (N := N_law) (sc := defScope s_law) (by decide +kernel)) (fun _ _ _ _ _ => by exact (gcname 7 (by decide) sc_law.nd)) (fun _ _ _ _ _ => (by apply re_tt; (case h => exact (pone (ttru (xblt (cr_all rfl) cm_all T.z_all (by decide +kernel) (acons (xcomp (own := [("_law_k", 8)]) rfl sc_law.nd (irng2 T.z_range (acons (xv 7) (acons xint anil))) (blkOk_by (own := [("_law_k", 8)]) (N := N_law) (sc := relS _ (defScope s_law)) (by decide +kernel)) (fun _ _ _ _ _ => by exact (gcname 8 (by decide) sc_law.nd)) (fun _ _ _ _ _ => pnil) (fun _ _ _ _ _ => by apply re_te; (case h => exact (xcall G__law_bit (hr.mono (by decide)) T.g__law_bit T.F__law_bit.kp T.b__law_bit (acons (xfz (xv 3)) (acons (xfz (xv 8)) anil)) (cons_len (cons_len (nil_len rfl) rfl) rfl) pass0)); (case q => (dsimp only [Cx.blk] <;> rfl)))) anil))))); (case q => (dsimp only [Cx.blk] <;> rfl)))) (fun _ _ _ _ _ => by apply re_te; (case h => exact (xv 7)); (case q => (dsimp only [Cx.blk] <;> rfl))))
    (bone (sif (tbool (wor (tcmp (op_neD hr.units) om_ne (xcall G_height (hr.mono (by decide)) T.g_height T.F_height.kp T.b_height (acons (xfz (xv 4)) anil) (cons_len (nil_len rfl) rfl) pass0) (xif (tcmp (op_neD hr.units) om_ne (xv 6) (xlst anil) (nomark _)) (xix (xv 6) xint) xnon) (nomark _)) (wor1 (ttru (xisi T.z_isinstance (xcall G_height (hr.mono (by decide)) T.g_height T.F_height.kp T.b_height (acons (xfz (xv 4)) anil) (cons_len (nil_len rfl) rfl) pass0) T.z_bool (by decide +kernel))))))
    (bone (sret xbl))
    bnil)))))))))))
    (bone (sret xbl))) rfl h
end
local macro_rules | `(tactic| walk_at "nu") => `(tactic| first | assumption | omega | ((try simp only [List.length_map, List.length_append, List.length_cons, List.length_nil, List.length_replicate, List.length_range] at *); omega))
local macro_rules | `(tactic| walk_at "yes") => `(tactic| first | rfl | assumption | exact decide_eq_true (by walk_at "nu") | exact decide_eq_false (by walk_at "nu") | exact beq_iff_eq.mpr (by walk_at "nu") | exact beq_eq_false_iff_ne.mpr (by walk_at "nu") | omega | decide | (simp; done))
local macro_rules | `(tactic| walk_at "go") => `(tactic| first
  | ((with_reducible refine (?_ : lenD _ = some _)); with_reducible assumption)
  | with_reducible exact zv_ret | with_reducible exact zv_newL | with_reducible exact zv_bool | with_reducible exact zv_seeD | with_reducible exact zv_fzD | with_reducible exact zv_fzA0 | with_reducible exact zk_nil | with_reducible exact zv_bl
  | with_reducible exact zk_rt | with_reducible exact zk_bk | with_reducible exact zk_ct | with_reducible exact zw_lenL | with_reducible exact zw_lenQ | with_reducible exact zw_lenT | with_reducible exact zw_abs | with_reducible exact zw_intI | with_reducible exact zw_intB | with_reducible exact zq_int | with_reducible exact zq_bl | with_reducible exact zq_blsT | with_reducible exact zq_blsL
  | ((with_reducible apply zv_var); rfl)
  | ((with_reducible apply zv_seeC) <;> walk_at "go")
  | ((with_reducible apply zv_fzC) <;> walk_at "go")
  | ((with_reducible apply zv_bind) <;> walk_at "go")
  | ((with_reducible apply zv_cons) <;> walk_at "go")
  | ((with_reducible apply zv_fzV) <;> walk_at "go")
  | ((with_reducible apply zv_op2) <;> walk_at "go")
  | ((with_reducible apply zv_ix) <;> walk_at "go")
  | ((with_reducible apply zv_fn1) <;> walk_at "go")
  | ((with_reducible apply zv_fn2) <;> walk_at "go")
  | ((with_reducible apply zv_see) <;> walk_at "go")
  | ((with_reducible apply zv_tru) <;> walk_at "go")
  | ((with_reducible apply zv_fzA1) <;> walk_at "go")
  | ((with_reducible apply zv_tup) <;> walk_at "go")
  | ((with_reducible apply zv_lst) <;> walk_at "go")
  | ((with_reducible apply zv_not) <;> walk_at "go")
  | ((with_reducible apply zv_notV) <;> walk_at "go")
  | ((with_reducible apply zv_neg) <;> walk_at "go")
  | ((with_reducible apply zv_part) <;> walk_at "go")
  | ((with_reducible apply zv_call) <;> walk_at "go")
  | ((with_reducible apply zv_and) <;> walk_at "go")
  | ((with_reducible apply zv_or) <;> walk_at "go")
  | ((with_reducible apply zv_andV) <;> walk_at "go")
  | ((with_reducible apply zv_orV) <;> walk_at "go")
  | ((with_reducible apply zv_if) <;> walk_at "go")
  | ((with_reducible apply zk_seq) <;> walk_at "go")
  | ((with_reducible apply zk_nx) <;> walk_at "go")
  | ((with_reducible apply zk_set) <;> walk_at "go")
  | ((with_reducible apply zk_drop) <;> walk_at "go")
  | ((with_reducible apply zk_ret) <;> walk_at "go")
  | ((with_reducible apply zk_if) <;> walk_at "go")
  | ((with_reducible apply zk_setI) <;> walk_at "go")
  | ((with_reducible apply zw_eq) <;> walk_at "go")
  | ((with_reducible apply zw_ne) <;> walk_at "go")
  | ((with_reducible apply zw_mod) <;> walk_at "go")
  | ((with_reducible apply zw_fdiv) <;> walk_at "go")
  | ((with_reducible apply zw_pow) <;> walk_at "go")
  | ((with_reducible apply zv_rng1) <;> walk_at "go")
  | ((with_reducible apply zv_rng2) <;> walk_at "go")
  | ((with_reducible apply zk_for) <;> walk_at "go")
  | ((with_reducible apply zv_tuple) <;> walk_at "go")
  | ((with_reducible apply zv_list) <;> walk_at "go")
  | ((with_reducible apply zv_items) <;> walk_at "go")
  | ((with_reducible apply zk_aug) <;> walk_at "go")
  | ((with_reducible apply zk_set2) <;> walk_at "go")
  | focus ((with_reducible apply zv_addI); (focus (walk_at "go"; done)); (focus (walk_at "go"; done)))
  | focus ((with_reducible apply zv_mulI); (focus (walk_at "go"; done)); (focus (walk_at "go"; done)); all_goals walk_at "go")
  | focus ((with_reducible apply zv_addT); (focus (walk_at "go"; done)); (focus (walk_at "go"; done)); all_goals walk_at "go")
  | focus ((with_reducible apply zv_mulT); (focus (walk_at "go"; done)); (focus (walk_at "go"; done)); all_goals walk_at "go")
  | focus ((with_reducible apply zpk_T); (focus (walk_at "yes")); walk_at "go")
  | focus ((with_reducible apply zpk_F); (focus (walk_at "yes")); walk_at "go")
  | focus ((with_reducible apply zps_T); (focus (walk_at "yes")); walk_at "go")
  | focus ((with_reducible apply zps_F); (focus (walk_at "yes")); walk_at "go")
  | with_reducible exact zw_int rfl
  | ((with_reducible refine (?_ : _ ≤ (_ : Nat))); first | (simp only [List.length_cons, List.length_nil]; decide) | (simp only [List.length_map, List.length_cons, List.length_nil, List.length_append]; omega) | (simp; omega))
  | ((with_reducible refine (?_ : _ = some (Ce.lst _))); first | assumption | exact get_new _ _ | exact get_mid _ _ _ | exact get_set (by assumption) | exact get_set (get_set (by assumption)) | rfl)
  | ((with_reducible refine (?_ : _ = some (some _))); rfl)
  | ((with_reducible refine (?_ : ixD _ _ = some _)); walk_at "it")
  | ((with_reducible apply zv_slT) <;> walk_at "go"; done)
  | ((with_reducible apply zv_slL) <;> walk_at "go"; done)
  | ((with_reducible refine (?_ : ixN _ _ = some _)); rfl)
  | ((with_reducible refine (?_ : itemsD _ = some _)); first | assumption | rfl)
  | ((with_reducible refine (?_ : truD _ = some _)); rfl)
  | ((with_reducible refine (?_ : (_ : Int) ≠ _)); first | assumption | omega | decide)
  | ((with_reducible refine (?_ : CPow _ _)); walk_at "pw")
  | ((with_reducible refine (?_ : CDivN _ _)); first | assumption | (refine ⟨?_, ?_⟩ <;> first | decide | omega))
  | ((with_reducible refine (?_ : CMul _ _)); walk_at "mu")
  | ((with_reducible refine (?_ : _ ∧ _)); first | omega | (refine ⟨?_, ?_, ?_, ?_⟩ <;> first | omega | (simp; done)))
  | ((with_reducible refine (?_ : _ = some _)); with_reducible assumption)
  | ((with_reducible refine (?_ : _ = some _)); assumption)
  | skip)
local macro_rules | `(tactic| walk_at "pw") => `(tactic| first | (refine ⟨by decide, by decide, ?_⟩; first | decide | omega) | skip)
local macro_rules | `(tactic| walk_at "mu") => `(tactic| first | (refine .inl ⟨?_, ?_⟩ <;> first | decide | omega) | (refine .inr ⟨?_, ?_⟩ <;> first | decide | omega) | skip)
local macro_rules | `(tactic| walk_at "it") => `(tactic| first | rfl | assumption | skip)
/-! ### drawing -/
def StOk (n : Nat) (xs : List Dt) : Prop := ∃ a b c : Int, xs = [.int a, .int b, .int c] ∧ 0 ≤ a ∧ 0 ≤ b ∧ b ≤ 2 ^ 32 ∧ 0 ≤ c ∧ c ≤ n
theorem stream_ok (ns : List Int) (k : Nat) (ce : List Ce) (hk : k ≤ 100) : ∃ xs, f__law_stream [.d (.sq (ns.map .int)), .d (.int k)] ce = some (.c ce.length, ce ++ [.lst xs]) ∧ StOk 0 xs := by
  unfold f__law_stream
  by_cases h : k < ns.length
  · have ha : atI (ns.map Dt.int) (k : Int) = some (.int ns[k]) := atI_nat (by rw [List.getElem?_map, List.getElem?_eq_getElem h]; rfl)
    have hi : ixD (.sq (ns.map Dt.int)) (.int (k : Int)) = some (.int ns[k]) := ha
    generalize ns[k] = v at hi
    have hm := Int.fmod_nonneg_of_pos (if v < 0 then -v else v) (b := 2147483647) (by omega)
    have hm2 := Int.fmod_lt_of_pos (if v < 0 then -v else v) (b := 2147483647) (by omega)
    by_cases h2 : 10 ^ 18 ≤ (if v < 0 then -v else v)
    · apply cut_ev (m__law_stream ⟨[some (.d (.sq (ns.map .int))), some (.d (.int k)), none], ce⟩)
      case h =>
        unfold m__law_stream
        walk_at "go"
      case k =>
        intro ev
        exact ⟨_, zf_rt ev (trim_new rfl), _, _, _, rfl, by omega, by omega, by omega, by omega, by omega⟩
    · apply cut_ev (m__law_stream ⟨[some (.d (.sq (ns.map .int))), some (.d (.int k)), none], ce⟩)
      case h =>
        unfold m__law_stream
        walk_at "go"
      case k =>
        intro ev
        exact ⟨_, zf_rt ev (trim_new rfl), _, _, _, rfl, by omega, by omega, by omega, by omega, by omega⟩
  · apply cut_ev (m__law_stream ⟨[some (.d (.sq (ns.map .int))), some (.d (.int k)), none], ce⟩)
    case h =>
      unfold m__law_stream
      walk_at "go"
    case k =>
      intro ev
      exact ⟨_, zf_rt ev (trim_new rfl), _, _, _, rfl, by decide, by simp; omega, by simp; omega, by decide, by decide⟩
theorem take_set {ce : List Ce} {k : Nat} {c : Ce} : (ce.set k c).take ce.length = ce.set k c := List.take_of_length_le (by rw [List.length_set]; exact Nat.le_refl _)
theorem draw_ok {n : Nat} {xs : List Dt} {m : Int} {k : Nat} {ce : List Ce} (hs : StOk n xs) (hc : ce[k]? = some (.lst xs)) (hm : 1 ≤ m) (hm2 : m ≤ 1000) (hn : n ≤ 1000000000) :
    ∃ (r : Int) (ys : List Dt), f__law_draw [.c k, .d (.int m)] ce = some (.d (.int r), ce.set k (.lst ys)) ∧ 0 ≤ r ∧ r < m ∧ StOk (n + 1) ys := by
  obtain ⟨a, b, c, rfl, ha, hb, hb2, hc0, hcn⟩ := hs
  have hm0 : m ≠ 0 := by omega
  have hd : CDivN a m := ⟨hm0, by omega⟩
  unfold f__law_draw
  by_cases h : 0 < a
  · apply cut_ev (m__law_draw ⟨[some (.c k), some (.d (.int m)), none, none], ce⟩)
    case h =>
      unfold m__law_draw
      walk_at "go"
    case k =>
      intro ev
      have h1 := Int.fmod_nonneg_of_pos a (b := m) (by omega)
      have h2 := Int.fmod_lt_of_pos a (b := m) (by omega)
      have h3 : 0 ≤ a.fdiv m := Int.fdiv_nonneg ha (by omega)
      exact ⟨_, _, zf_rt ev (trim_d take_set), h1, h2, _, _, _, rfl, h3, hb, hb2, hc0, by omega⟩
  · have ha0 : a = 0 := by omega
    subst ha0
    have hp : (b + 7919 * (c + 1) + 104729).natAbs < 2 ^ 64 := by omega
    generalize hq : ((b + 7919 * (c + 1) + 104729) ^ (5 : Int).toNat).fmod 2147483647 = q
    have q1 : 0 ≤ q := by rw [← hq]; exact Int.fmod_nonneg_of_pos _ (by omega)
    have q2 : q < 2147483647 := by rw [← hq]; exact Int.fmod_lt_of_pos _ (by omega)
    have hpw : powF (.int (b + 7919 * (c + 1) + 104729)) (.int 5) = some (.int ((b + 7919 * (c + 1) + 104729) ^ (5 : Int).toNat)) := zw_pow ⟨by decide, by decide, hp⟩
    apply cut_ev (m__law_draw ⟨[some (.c k), some (.d (.int m)), none, none], ce⟩)
    case h =>
      unfold m__law_draw
      walk_at "go"
    case k =>
      intro ev
      have h1 := Int.fmod_nonneg_of_pos ((((((b + 7919 * (c + 1) + 104729) ^ (5 : Int).toNat).fmod 2147483647 + (c + 1)) * 40692).fmod 2147483629).fdiv 7) (b := m) (by omega)
      have h2 := Int.fmod_lt_of_pos ((((((b + 7919 * (c + 1) + 104729) ^ (5 : Int).toNat).fmod 2147483647 + (c + 1)) * 40692).fmod 2147483629).fdiv 7) (b := m) (by omega)
      exact ⟨_, _, zf_rt ev (trim_d take_set), h1, h2, _, _, _, rfl, by omega, hb, hb2, by omega, by omega⟩
theorem set_app {ce : List Ce} {k : Nat} {c L : Ce} (h : k < ce.length) : (ce ++ [L]).set k c = ce.set k c ++ [L] := List.set_append_left _ _ h
theorem row_ok {n : Nat} {xs : List Dt} {most : Int} {k : Nat} {ce : List Ce} (hs : StOk n xs) (hc : ce[k]? = some (.lst xs)) (hm : 1 ≤ most) (hm2 : most ≤ 100) (hn : n ≤ 1000000) :
    ∃ (bs : List Bool) (ys : List Dt), f__law_row f__law_draw [.c k, .d (.int most)] ce = some (.d (.tup (bs.map .bl)), ce.set k (.lst ys)) ∧ 1 ≤ bs.length ∧ (bs.length : Int) ≤ most ∧ StOk (n + 200) ys := by
  obtain ⟨r, ys, e1, r0, r1, hy⟩ := draw_ok hs hc hm (by omega) (by omega)
  have hk : k < ce.length := (List.getElem?_eq_some_iff.mp hc).1
  have key := comp_inv (own := [2]) (k := (ce.set k (.lst ys)).length) (g := nameG 2) (t := retM true) (m := bindM (callM f__law_draw (consM (vM 0) (consM (retM (.d (.int 2))) (retM [])))) fun x => bindM (retM (.d (.int 1))) (op2 eqF x))
    (fun i E => ∃ (bs : List Bool) (zs : List Dt) (z : Option Vl), E = ⟨[some (.c k), some (.d (.int most)), z], ce.set k (.lst zs) ++ [.lst (bs.map .bl)]⟩ ∧ bs.length = i ∧ StOk (n + 1 + i) zs ∧ i ≤ (1 + r).toNat) (rngL 0 (1 + r).toNat) 0
    ⟨[some (.c k), some (.d (.int most)), none], ce.set k (.lst ys) ++ [.lst []]⟩ ⟨[], ys, none, rfl, rfl, hy, Nat.zero_le _⟩ (fun i d E hd hp => by
      obtain ⟨bs, zs, z, rfl, hl, hz, hi⟩ := hp
      obtain ⟨hi2, rfl⟩ := rng_at hd
      rw [Nat.zero_add] at hl hz ⊢
      have hck : (ce.set k (.lst zs) ++ [Ce.lst (bs.map .bl)])[k]? = some (.lst zs) := by
        rw [List.getElem?_append_left (by rw [List.length_set]; exact hk)]
        exact get_set hc
      obtain ⟨q, ws, e2, q0, q1, hw⟩ := draw_ok hz hck (m := 2) (by omega) (by omega) (by omega)
      rw [set_app (by rw [List.length_set]; exact hk), List.set_set] at e2
      have hlen : (ce.set k (.lst ys)).length = (ce.set k (.lst ws)).length := by rw [List.length_set, List.length_set]
      refine ⟨_, zt_yes (c := (ce.set k (.lst ys)).length) (acc := bs.map .bl) (x := .bl (q == 1)) (r := .d (.bl (q == 1))) rfl zv_ret (zv_bind (zv_call (zv_cons (zv_var rfl) (zv_cons zv_ret zv_ret)) e2) (zv_bind zv_ret (zv_op2 zv_seeD zv_seeD (zw_eq zq_int)))) zv_fzD (by rw [hlen]; exact get_new _ _) (by rw [List.length_map]; omega), bs ++ [q == 1], ws, some (.d (.int (0 + (i : Int)))), ?_, ?_, hw, by omega⟩
      · rw [hlen, set_new, List.map_append]
        rfl
      · rw [List.length_append, hl]
        rfl)
  obtain ⟨E2, ec, bs, zs, z, rfl, hl, hz, hi⟩ := key
  rw [rng_len, Nat.zero_add] at hl hz hi
  refine ⟨bs, zs, ?_, by omega, by omega, ?_⟩
  · unfold f__law_row
    apply cut_ev (m__law_row f__law_draw ⟨[some (.c k), some (.d (.int most)), none], ce⟩)
    case h =>
      unfold m__law_row
      have hg : (ce.set k (Ce.lst zs) ++ [Ce.lst (bs.map Dt.bl)])[(ce.set k (Ce.lst ys)).length]? = some (Ce.lst (bs.map Dt.bl)) := by
        rw [show (ce.set k (Ce.lst ys)).length = (ce.set k (Ce.lst zs)).length by rw [List.length_set, List.length_set]]
        exact get_new _ _
      refine zk_ret (zv_bind (zv_cons (zv_comp (zv_rng1 (zv_cons (zv_bind zv_ret (zv_bind (zv_call (zv_cons (zv_var rfl) (zv_cons (zv_fzV (zv_var rfl) zv_fzD) zv_ret)) e1) (zv_addI zv_seeD zv_seeD))) zv_ret) (by omega)) ec) zv_ret) (zv_tuple (zv_seeC hg) rfl))
    case k =>
      intro ev
      refine zf_rt ev (trim_d ?_)
      show (ce.set k (.lst zs) ++ [Ce.lst (bs.map .bl)]).take ce.length = _
      rw [List.take_left' (by rw [List.length_set])]
  · obtain ⟨a, b, c, rfl, h1, h2, h3, h4, h5⟩ := hz
    exact ⟨a, b, c, rfl, h1, h2, h3, h4, by omega⟩

/-! ### rows -/
/-- how many truths the plain row has -/
def plLen (bs : List Bool) : Nat → Nat
  | 0 => 0
  | 1 => 1
  | e + 2 => if bs[e + 1]? = bs[e]? then plLen bs (e + 1) else e + 2
theorem plLen_le (bs : List Bool) : ∀ e, plLen bs e ≤ e
  | 0 => Nat.le_refl _
  | 1 => Nat.le_refl _
  | e + 2 => by
    unfold plLen
    split
    · exact Nat.le_trans (plLen_le bs (e + 1)) (by omega)
    · exact Nat.le_refl _
theorem plLen_pos (bs : List Bool) : ∀ e, 1 ≤ e → 1 ≤ plLen bs e
  | 1, _ => Nat.le_refl _
  | e + 2, _ => by
    unfold plLen
    split
    · exact plLen_pos bs (e + 1) (by omega)
    · omega
/-- behind the plain row nothing changes -/
theorem plLen_same (bs : List Bool) : ∀ e i, plLen bs e ≤ i + 1 → i < e → bs[i]? = bs[e - 1]?
  | 0, i, _, h => absurd h (by omega)
  | 1, i, _, h => by
    have : i = 0 := by omega
    subst this
    rfl
  | e + 2, i, hp, h => by
    unfold plLen at hp
    split at hp
    · rename_i he
      by_cases hi : i = e + 1
      · subst hi
        rfl
      · have := plLen_same bs (e + 1) i hp (by omega)
        rw [this]
        exact he.symm
    · have : i = e + 1 := by omega
      subst this
      rfl
/-- just ahead of the last change -/
theorem plLen_last (bs : List Bool) : ∀ e, 2 ≤ plLen bs e → bs[plLen bs e - 1]? ≠ bs[plLen bs e - 2]?
  | 0, h => absurd h (by unfold plLen; decide)
  | 1, h => absurd h (by unfold plLen; decide)
  | e + 2, h => by
    unfold plLen at h ⊢
    split
    · rename_i he
      rw [if_pos he] at h
      exact plLen_last bs (e + 1) h
    · rename_i he
      exact he
theorem bl_at {bs : List Bool} {i : Nat} {b : Bool} (h : bs[i]? = some b) : (bs.map Dt.bl)[i]? = some (.bl b) := by
  rw [List.getElem?_map, h]
  rfl
theorem at_bl {bs : List Bool} {i : Nat} {b : Bool} {z : Int} (h : bs[i]? = some b) (hz : z = (i : Int)) : atI (bs.map Dt.bl) z = some (.bl b) := by
  rw [hz]
  exact atI_nat (bl_at h)
/-- a row as it is passed: a tuple or a list that is data -/
def RowD (r : Dt) (bs : List Bool) : Prop := r = .tup (bs.map .bl) ∨ r = .lst (bs.map .bl)
theorem RowD.ix {r : Dt} {bs : List Bool} {i : Nat} {b : Bool} {z : Int} (h : RowD r bs) (hb : bs[i]? = some b) (hz : z = (i : Int)) : ixD r (.int z) = some (.bl b) := by
  rcases h with rfl | rfl
  · exact at_bl hb hz
  · exact at_bl hb hz
theorem RowD.len {r : Dt} {bs : List Bool} (h : RowD r bs) : lenD r = some (.int (bs.length : Int)) := by
  rcases h with rfl | rfl
  · show some (Dt.int ((bs.map Dt.bl).length : Int)) = _
    rw [List.length_map]
  · show some (Dt.int ((bs.map Dt.bl).length : Int)) = _
    rw [List.length_map]
theorem plain_loop {r : Dt} {bs : List Bool} (hr : RowD r bs) (ce : List Ce) : ∀ (e N : Nat), e ≤ bs.length → 1 ≤ e → e < N →
    whileS (andM (Hk.bindM (Hk.bindM (vM 1) fun x => Hk.bindM (retM (.d (.int 1))) (op2 gtF x)) boolM) (Hk.bindM (Hk.bindM (Hk.bindM (vM 0) fun x => Hk.bindM (Hk.bindM (vM 1) fun x => Hk.bindM (retM (.d (.int 1))) (op2 subF x)) (ixF x)) fun x => Hk.bindM (Hk.bindM (vM 0) fun x => Hk.bindM (Hk.bindM (vM 1) fun x => Hk.bindM (retM (.d (.int 2))) (op2 subF x)) (ixF x)) (op2 eqF x)) boolM))
      (augS 1 (fun i j => i - j) (retM (.d (.int 1)))) N ⟨[some (.d r), some (.d (.int (e : Int)))], ce⟩ = some (.nx ⟨[some (.d r), some (.d (.int (plLen bs e : Int)))], ce⟩)
  | 0, N, _, h, _ => absurd h (by omega)
  | 1, 0, _, _, h => absurd h (by omega)
  | 1, N + 1, _, _, _ => by
    rw [show plLen bs 1 = 1 from rfl]
    apply zk_whF
    case h => walk_at "go"
    case hk => rfl
    case e => rfl
  | e + 2, 0, _, _, h => absurd h (by omega)
  | e + 2, N + 1, hl, _, hN => by
    have h1 : bs[e + 1]? = some (bs[e + 1]'(by omega)) := List.getElem?_eq_getElem _
    have h2 : bs[e]? = some (bs[e]'(by omega)) := List.getElem?_eq_getElem _
    have x1 : ixD r (.int (((e + 2 : Nat) : Int) - 1)) = some (.bl bs[e + 1]) := hr.ix h1 (by omega)
    have x2 : ixD r (.int (((e + 2 : Nat) : Int) - 2)) = some (.bl bs[e]) := hr.ix h2 (by omega)
    by_cases hb : bs[e + 1] = bs[e]
    · rw [show plLen bs (e + 2) = plLen bs (e + 1) by conv => lhs; unfold plLen; rw [if_pos (by rw [h1, h2, hb])]]
      apply zk_whT
      case h => walk_at "go"
      case hk => walk_at "yes"
      case g => walk_at "go"
      case q =>
        have := plain_loop hr ce (e + 1) N (by omega) (by omega) (by omega)
        rw [show ((e + 1 : Nat) : Int) = ((e + 2 : Nat) : Int) - 1 by omega] at this
        exact this
    · rw [show plLen bs (e + 2) = e + 2 by conv => lhs; unfold plLen; rw [if_neg (by rw [h1, h2]; intro h; exact hb (Option.some.inj h))]]
      apply zk_whF
      case h => walk_at "go"
      case hk => walk_at "yes"
      case e => rfl
theorem cut_to (bs : List Bool) (p : Nat) (h : p ≤ bs.length) : Hk.cutD (bs.map Dt.bl) none (some (p : Int)) = (bs.take p).map Dt.bl := by
  unfold Hk.cutD
  rw [HT.sIx_none, HT.sIx_nat, List.length_map, Nat.min_eq_left h, List.drop_zero, Nat.sub_zero, List.map_take]
theorem plain_ok {r : Dt} {bs : List Bool} (hr : RowD r bs) (h1 : 1 ≤ bs.length) (h2 : bs.length ≤ 1000) (ce : List Ce) : f_plain [.d r] ce = some (.d (.tup ((bs.take (plLen bs bs.length)).map .bl)), ce) := by
  have hl := hr.len
  have hw := plain_loop hr ce bs.length 100000 (Nat.le_refl _) h1 (by omega)
  have hp := plLen_le bs bs.length
  rw [← cut_to bs _ hp]
  unfold f_plain
  rcases hr with rfl | rfl
  · apply cut_ev (m_plain ⟨[some (.d (.tup (bs.map .bl))), none], ce⟩)
    case h =>
      unfold m_plain
      walk_at "go"
    case k =>
      intro ev
      exact zf_rt ev (trim_d (List.take_of_length_le (Nat.le_refl _)))
  · apply cut_ev (m_plain ⟨[some (.d (.lst (bs.map .bl))), none], ce⟩)
    case h =>
      unfold m_plain
      walk_at "go"
    case k =>
      intro ev
      exact zf_rt ev (trim_d (List.take_left' rfl))
/-- height -/
theorem height_ok {r : Dt} {bs : List Bool} (hr : RowD r bs) (h1 : 1 ≤ bs.length) (h2 : bs.length ≤ 1000) (ce : List Ce) :
    f_height f_plain [.d r] ce = some (.d (if bs[bs.length - 1]? = some true then .int ((plLen bs bs.length : Int) - 1) else .non), ce) := by
  have hp := plain_ok hr h1 h2 ce
  have q1 := plLen_le bs bs.length
  have q2 := plLen_pos bs bs.length h1
  have hs := plLen_same bs bs.length (plLen bs bs.length - 1) (by omega) (by omega)
  generalize plLen bs bs.length = p at *
  have hb : bs[p - 1]? = some (bs[p - 1]'(by omega)) := List.getElem?_eq_getElem _
  have hx : ixD (.tup ((bs.take p).map .bl)) (.int (-1)) = some (.bl (bs[p - 1]'(by omega))) := by
    have ht : (bs.take p) = (bs.take (p - 1)) ++ [bs[p - 1]'(by omega)] := by
      conv => lhs; rw [show p = (p - 1) + 1 by omega]
      rw [List.take_add_one, hb]
      rfl
    rw [ht, List.map_append]
    exact atI_last _ _
  have hlen : lenD (.tup ((bs.take p).map .bl)) = some (.int (p : Int)) := by
    show some (Dt.int (((bs.take p).map Dt.bl).length : Int)) = _
    rw [List.length_map, List.length_take, Nat.min_eq_left q1]
  unfold f_height
  rw [← hs, hb]
  cases hv : bs[p - 1]'(by omega) with
  | true =>
    rw [hv] at hx
    apply cut_ev (m_height f_plain ⟨[some (.d r), none], ce⟩)
    case h =>
      unfold m_height
      walk_at "go"
    case k =>
      intro ev
      exact zf_rt ev (trim_d (List.take_of_length_le (Nat.le_refl _)))
  | false =>
    rw [hv] at hx
    apply cut_ev (m_height f_plain ⟨[some (.d r), none], ce⟩)
    case h =>
      unfold m_height
      walk_at "go"
    case k =>
      intro ev
      exact zf_rt ev (trim_d (List.take_of_length_le (Nat.le_refl _)))
/-- the law's own bit and plain -/
theorem bit_ok {bs : List Bool} (h1 : 1 ≤ bs.length) {l : Int} (hl : 0 ≤ l) (ce : List Ce) :
    f__law_bit [.d (.tup (bs.map .bl)), .d (.int l)] ce = some (.d (.bl (bs.getD (min l.toNat (bs.length - 1)) false)), ce) := by
  have hlt : min l.toNat (bs.length - 1) < bs.length := by omega
  have hb : bs[min l.toNat (bs.length - 1)]? = some (bs.getD (min l.toNat (bs.length - 1)) false) := by
    rw [List.getD_eq_getElem?_getD, List.getElem?_eq_getElem hlt]
    rfl
  have hx : ixD (.tup (bs.map .bl)) (.int (if ((bs.map Dt.bl).length : Int) - 1 < l then ((bs.map Dt.bl).length : Int) - 1 else l)) = some (.bl (bs.getD (min l.toNat (bs.length - 1)) false)) := by
    refine at_bl hb ?_
    rw [List.length_map]
    split <;> omega
  unfold f__law_bit
  apply cut_ev (m__law_bit ⟨[some (.d (.tup (bs.map .bl))), some (.d (.int l))], ce⟩)
  case h =>
    unfold m__law_bit
    walk_at "go"
  case k =>
    intro ev
    exact zf_rt ev (trim_d (List.take_of_length_le (Nat.le_refl _)))
/-- the law's own plain row -/
theorem lawplain_loop {bs : List Bool} (ce : List Ce) : ∀ (e N : Nat), e ≤ bs.length → 1 ≤ e → e < N →
    whileS (andM (Hk.bindM (Hk.bindM (Hk.bindM (consM (vM 0) (retM [])) (fn1 lenD)) fun x => Hk.bindM (retM (.d (.int 1))) (op2 gtF x)) boolM) (Hk.bindM (Hk.bindM (Hk.bindM (vM 0) fun x => Hk.bindM (negM (retM (.d (.int 1)))) (ixF x)) fun x => Hk.bindM (Hk.bindM (vM 0) fun x => Hk.bindM (negM (retM (.d (.int 2)))) (ixF x)) (op2 eqF x)) boolM))
      (setS 0 (Hk.bindM (vM 0) fun x => Hk.bindM (retM none) fun l => Hk.bindM (partM (negM (retM (.d (.int 1))))) fun h => slF x l h)) N ⟨[some (.d (.tup ((bs.take e).map .bl)))], ce⟩ = some (.nx ⟨[some (.d (.tup ((bs.take (plLen bs e)).map .bl)))], ce⟩)
  | 0, N, _, h, _ => absurd h (by omega)
  | 1, 0, _, _, h => absurd h (by omega)
  | 1, N + 1, hl, _, _ => by
    rw [show plLen bs 1 = 1 from rfl]
    have hlen : lenD (.tup ((bs.take 1).map .bl)) = some (.int 1) := by
      show some (Dt.int (((bs.take 1).map Dt.bl).length : Int)) = _
      rw [List.length_map, List.length_take, Nat.min_eq_left hl]
      rfl
    apply zk_whF
    case h => walk_at "go"
    case hk => rfl
    case e => rfl
  | e + 2, 0, _, _, h => absurd h (by omega)
  | e + 2, N + 1, hl, _, hN => by
    have h1 : bs[e + 1]? = some (bs[e + 1]'(by omega)) := List.getElem?_eq_getElem _
    have h2 : bs[e]? = some (bs[e]'(by omega)) := List.getElem?_eq_getElem _
    have hlen : lenD (.tup ((bs.take (e + 2)).map .bl)) = some (.int ((e + 2 : Nat) : Int)) := by
      show some (Dt.int (((bs.take (e + 2)).map Dt.bl).length : Int)) = _
      rw [List.length_map, List.length_take, Nat.min_eq_left hl]
    have t1 : bs.take (e + 2) = bs.take (e + 1) ++ [bs[e + 1]'(by omega)] := by
      rw [List.take_add_one, h1]
      rfl
    have t2 : bs.take (e + 1) = bs.take e ++ [bs[e]'(by omega)] := by
      rw [List.take_add_one, h2]
      rfl
    have l1 : (bs.take (e + 2)).length = e + 2 := by rw [List.length_take, Nat.min_eq_left hl]
    have x1 : ixD (.tup ((bs.take (e + 2)).map .bl)) (.int (-1)) = some (.bl (bs[e + 1]'(by omega))) := by
      rw [t1, List.map_append]
      exact atI_last _ _
    have x2 : ixD (.tup ((bs.take (e + 2)).map .bl)) (.int (-2)) = some (.bl (bs[e]'(by omega))) := by
      show atI ((bs.take (e + 2)).map Dt.bl) (-2) = _
      unfold atI
      rw [List.length_map, l1, show ixN (e + 2) (-2) = some e by unfold ixN; rw [if_neg (by omega), if_pos (by omega)]; congr 1; omega]
      show ((bs.take (e + 2)).map Dt.bl)[e]? = _
      rw [List.getElem?_map, List.getElem?_take_of_lt (by omega), h2]
      rfl
    have hcut : Hk.cutD ((bs.take (e + 2)).map Dt.bl) none (some (-1)) = (bs.take (e + 1)).map Dt.bl := by
      unfold Hk.cutD
      rw [HT.sIx_none, List.length_map, l1, show HT.sIx (e + 2) (e + 2) (some (-1)) = e + 1 by
        show (if (-1 : Int) < 0 then ((-1 : Int) + ((e + 2 : Nat) : Int)).toNat else min (-1 : Int).toNat (e + 2)) = e + 1
        rw [if_pos (by decide)]
        omega, List.drop_zero, Nat.sub_zero, ← List.map_take, List.take_take, Nat.min_eq_left (by omega)]
    by_cases hb : bs[e + 1]'(by omega) = bs[e]'(by omega)
    · rw [show plLen bs (e + 2) = plLen bs (e + 1) by conv => lhs; unfold plLen; rw [if_pos (by rw [h1, h2, hb])]]
      apply zk_whT
      case h => walk_at "go"
      case hk => walk_at "yes"
      case g => walk_at "go"
      case q =>
        have := lawplain_loop (bs := bs) ce (e + 1) N (by omega) (by omega) (by omega)
        rw [← hcut] at this
        exact this
    · rw [show plLen bs (e + 2) = e + 2 by conv => lhs; unfold plLen; rw [if_neg (by rw [h1, h2]; intro h; exact hb (Option.some.inj h))]]
      apply zk_whF
      case h => walk_at "go"
      case hk => walk_at "yes"
      case e => rfl
theorem lawplain_ok {bs : List Bool} (h1 : 1 ≤ bs.length) (h2 : bs.length ≤ 1000) (ce : List Ce) : f__law_plain [.d (.tup (bs.map .bl))] ce = some (.d (.tup ((bs.take (plLen bs bs.length)).map .bl)), ce) := by
  have hw := lawplain_loop (bs := bs) ce bs.length 100000 (Nat.le_refl _) h1 (by omega)
  rw [List.take_of_length_le (Nat.le_refl _)] at hw
  unfold f__law_plain
  apply cut_ev (m__law_plain ⟨[some (.d (.tup (bs.map .bl)))], ce⟩)
  case h =>
    unfold m__law_plain
    walk_at "go"
  case k =>
    intro ev
    exact zf_rt ev (trim_d (List.take_of_length_le (Nat.le_refl _)))
/-! ### levels -/
def bitB (bs : List Bool) (l : Nat) : Bool := bs.getD (min l (bs.length - 1)) false
theorem bitB_plain {bs : List Bool} (h1 : 1 ≤ bs.length) (l : Nat) : bitB (bs.take (plLen bs bs.length)) l = bitB bs l := by
  have q1 := plLen_le bs bs.length
  have q2 := plLen_pos bs bs.length h1
  have hs := plLen_same bs bs.length
  generalize plLen bs bs.length = p at *
  unfold bitB
  rw [List.length_take, Nat.min_eq_left q1, List.getD_eq_getElem?_getD, List.getD_eq_getElem?_getD, List.getElem?_take_of_lt (by omega)]
  by_cases hl : l ≤ p - 1
  · rw [Nat.min_eq_left hl, Nat.min_eq_left (by omega)]
  · rw [Nat.min_eq_right (by omega), hs (p - 1) (by omega) (by omega), hs (min l (bs.length - 1)) (by omega) (by omega)]
theorem bits_comp {bs : List Bool} (h1 : 1 ≤ bs.length) {j : Nat} {sl : List (Option Vl)} {v : Nat} (hv : v < sl.length) (hvj : v ≠ j) (hj : sl[j]? = some (some (.d (.tup (bs.map .bl))))) {mi : M (List Dt)} {E : En} {ce : List Ce} {lo n : Nat} (hn : n < 1000) (hi : mi E = some (rngL (lo : Int) n, ⟨sl, ce⟩)) :
    compM [v] mi (nameG v) (retM true) (callM f__law_bit (consM (fzV (vM j)) (consM (fzV (vM v)) (retM [])))) E = some (.c ce.length, ⟨sl, ce ++ [.lst (((List.range n).map fun i => bitB bs (lo + i)).map .bl)]⟩) := by
  have key := comp_inv (own := [v]) (k := ce.length) (g := nameG v) (t := retM true) (m := callM f__law_bit (consM (fzV (vM j)) (consM (fzV (vM v)) (retM [])))) (fun i E => ∃ (z : Option Vl), E = ⟨sl.set v z, ce ++ [.lst (((List.range i).map fun i => bitB bs (lo + i)).map .bl)]⟩) (rngL (lo : Int) n) 0 ⟨sl, ce ++ [.lst []]⟩
    ⟨sl[v]'hv, by rw [List.set_getElem_self]; rfl⟩ (fun i d E hd hp => by
      obtain ⟨z, rfl⟩ := hp
      obtain ⟨hi2, rfl⟩ := rng_at hd
      rw [Nat.zero_add]
      have e := bit_ok h1 (l := (lo : Int) + (i : Int)) (by omega) (ce ++ [.lst (((List.range i).map fun i => bitB bs (lo + i)).map .bl)])
      rw [show ((lo : Int) + (i : Int)).toNat = lo + i by omega] at e
      have hg : nameG v (.d (.int ((lo : Int) + (i : Int)))) (wipeE [v] ⟨sl.set v z, ce ++ [.lst (((List.range i).map fun i => bitB bs (lo + i)).map .bl)]⟩) = some ⟨sl.set v (some (.d (.int ((lo : Int) + (i : Int))))), ce ++ [.lst (((List.range i).map fun i => bitB bs (lo + i)).map .bl)]⟩ := by
        show some (En.mk (((sl.set v z).set v none).set v _) _) = _
        rw [List.set_set, List.set_set]
        rfl
      refine ⟨_, zt_yes hg zv_ret (zv_call (zv_cons (zv_fzV (zv_var (by rw [List.getElem?_set_ne hvj]; exact hj)) zv_fzD) (zv_cons (zv_fzV (zv_var (by rw [List.getElem?_set, if_pos rfl, if_pos hv])) zv_fzD) zv_ret)) e) zv_fzD (get_new _ _) (by rw [List.length_map, List.length_map, List.length_range]; omega), some (.d (.int ((lo : Int) + (i : Int)))), ?_⟩
      rw [set_new, List.range_succ, List.map_append, List.map_append]
      rfl)
  obtain ⟨E2, ec, z, rfl⟩ := key
  rw [rng_len, Nat.zero_add] at ec
  rw [zv_comp hi ec]
  have hb : bring sl (sl.set v z) [v] = sl := by
    show (sl.set v z).set v (sl[v]?.getD none) = sl
    rw [List.set_set, List.getElem?_eq_getElem hv]
    exact List.set_getElem_self hv
  rw [hb]
theorem blsD_map : ∀ bs : List Bool, blsD (bs.map .bl) = some bs
  | [] => rfl
  | b :: bs => by
    show (blsD (bs.map .bl)).map (b :: ·) = _
    rw [blsD_map bs]
    rfl
theorem all_bls (bs : List Bool) : allD (.lst (bs.map .bl)) = some (.bl (bs.all fun b => b)) := by
  show (blsD (bs.map .bl)).map _ = _
  rw [blsD_map]
  rfl

def tailS : En → Option Rs :=
  (seqS (ifS (Hk.orM (Hk.bindM (Hk.bindM (vM 5) fun x => bindM (callM f__law_plain (consM (fzV (vM 3)) (retM []))) (op2 neF x)) boolM) (Hk.orM (Hk.notM (Hk.bindM (Hk.bindM (vM 5) (seeF (isiF "tuple"))) truM)) (Hk.bindM (Hk.bindM (Hk.bindM (consM (vM 4) (retM [])) (listF)) fun x => bindM (Hk.bindM (consM (vM 3) (retM [])) (listF)) (op2 neF x)) boolM)))
    (retS (retM (.d (.bl false))))
    nilS)
    (seqS (ifS (Hk.bindM (Hk.bindM (compM [7] (rng1M (consM (retM (.d (.int 40))) (retM []))) (nameG 7) (retM true) (callM f__law_bit (consM (fzV (vM 5)) (consM (fzV (vM 7)) (retM []))))) fun x => bindM (compM [7] (rng1M (consM (retM (.d (.int 40))) (retM []))) (nameG 7) (retM true) (callM f__law_bit (consM (fzV (vM 3)) (consM (fzV (vM 7)) (retM []))))) (op2 neF x)) boolM)
    (retS (retM (.d (.bl false))))
    nilS)
    (seqS (setS 6 (compM [7] (rng1M (consM (retM (.d (.int 31))) (retM []))) (nameG 7) (Hk.bindM (Hk.bindM (consM (compM [8] (rng2M (consM (vM 7) (consM (retM (.d (.int 40))) (retM [])))) (nameG 8) (retM true) (callM f__law_bit (consM (fzV (vM 3)) (consM (fzV (vM 8)) (retM []))))) (retM [])) (fn1 allD)) truM) (vM 7)))
    (ifS (Hk.orM (Hk.bindM (Hk.bindM (callM (f_height f_plain) (consM (fzV (vM 4)) (retM []))) fun x => bindM (ifM (Hk.bindM (Hk.bindM (vM 6) fun x => bindM (lstM (retM [])) (op2 neF x)) boolM) (Hk.bindM (vM 6) fun x => bindM (retM (.d (.int 0))) (ixF x)) (retM (.d .non))) (op2 neF x)) boolM) (Hk.bindM (Hk.bindM (callM (f_height f_plain) (consM (fzV (vM 4)) (retM []))) (seeF (isiF "bool"))) truM))
    (retS (retM (.d (.bl false))))
    nilS))))
theorem range_const {p : Nat → Bool} {n : Nat} (h : ∀ i, i < n → p i = true) : ((List.range n).map p).all (fun b => b) = true := by
  rw [List.all_eq_true]
  intro b hb
  obtain ⟨i, hi, rfl⟩ := List.mem_map.mp hb
  exact h i (List.mem_range.mp hi)
/-- from a level on true for ever -/
def sureB (bs : List Bool) (l : Nat) : Bool := ((List.range (40 - l)).map fun i => bitB bs (l + i)).all fun b => b
theorem sure_all (bs : List Bool) (l : Nat) : sureB bs l = true ↔ ∀ i, i < 40 - l → bitB bs (l + i) = true := by
  unfold sureB
  rw [List.all_eq_true]
  constructor
  · intro h i hi
    exact h _ (List.mem_map.mpr ⟨i, List.mem_range.mpr hi, rfl⟩)
  · intro h b hb
    obtain ⟨i, hi, rfl⟩ := List.mem_map.mp hb
    exact h i (List.mem_range.mp hi)
theorem bitB_far {bs : List Bool} {l : Nat} (h : bs.length ≤ l + 1) : bitB bs l = bs.getD (bs.length - 1) false := by
  unfold bitB
  rw [Nat.min_eq_right (by omega)]
/-- the first sure level is the plain row's last -/
theorem sure_first {bs : List Bool} (h1 : 1 ≤ bs.length) (h2 : bs.length ≤ 30) :
    ((List.range 31).filter (sureB bs))[0]? = if bs[bs.length - 1]? = some true then some (plLen bs bs.length - 1) else none := by
  have q1 := plLen_le bs bs.length
  have q2 := plLen_pos bs bs.length h1
  have hs := plLen_same bs bs.length
  have hl := plLen_last bs bs.length
  generalize plLen bs bs.length = p at *
  have hlast : bs[bs.length - 1]? = some (bs[bs.length - 1]'(by omega)) := List.getElem?_eq_getElem _
  have hg : bs.getD (bs.length - 1) false = bs[bs.length - 1]'(by omega) := by
    rw [List.getD_eq_getElem?_getD, hlast]
    rfl
  cases hv : bs[bs.length - 1]'(by omega) with
  | false =>
    rw [hlast, hv, if_neg (by simp)]
    have : (List.range 31).filter (sureB bs) = [] := by
      rw [List.filter_eq_nil_iff]
      intro l hm hsure
      have hm := List.mem_range.mp hm
      have := (sure_all bs l).mp hsure (39 - l) (by omega)
      rw [bitB_far (by omega), hg, hv] at this
      cases this
    rw [this]
    rfl
  | true =>
    rw [hlast, hv, if_pos rfl]
    have bt : ∀ l, p ≤ l + 1 → bitB bs l = true := fun l hl => by
      have hb : bs[min l (bs.length - 1)]? = some true := by
        rw [hs (min l (bs.length - 1)) (by omega) (by omega), hlast, hv]
      unfold bitB
      rw [List.getD_eq_getElem?_getD, hb]
      rfl
    have e31 : List.range 31 = List.range (p - 1) ++ (List.range (31 - (p - 1))).map (p - 1 + ·) := by
      rw [← List.range_add]
      congr 1
      omega
    have f1 : (List.range (p - 1)).filter (sureB bs) = [] := by
      rw [List.filter_eq_nil_iff]
      intro l hm hsure
      have hm := List.mem_range.mp hm
      have h3 := (sure_all bs l).mp hsure (p - 2 - l) (by omega)
      rw [show l + (p - 2 - l) = p - 2 by omega] at h3
      have hb : bs[p - 2]? = some true := by
        unfold bitB at h3
        rw [Nat.min_eq_left (by omega), List.getD_eq_getElem?_getD] at h3
        have : bs[p - 2]? = some (bs[p - 2]'(by omega)) := List.getElem?_eq_getElem _
        rw [this] at h3 ⊢
        exact congrArg some h3
      refine hl (by omega) ?_
      rw [hb, hs (p - 1) (by omega) (by omega), hlast, hv]
    rw [e31, List.filter_append, f1, List.nil_append, show 31 - (p - 1) = (30 - (p - 1)) + 1 by omega, List.range_succ_eq_map, List.map_cons, List.filter_cons, if_pos]
    · rfl
    · exact (sure_all bs _).mpr fun i hi => bt _ (by omega)
theorem isi_tt {xs : List Dt} : isiF "tuple" (.tup xs) = some (.bl true) := by
  show (kitB "tuple" "tuple").map Dt.bl = _
  rw [show kitB "tuple" "tuple" = some true by decide +kernel]
  rfl
theorem isi_ib {i : Int} : isiF "bool" (.int i) = some (.bl false) := by
  show (kitB "int" "bool").map Dt.bl = _
  rw [show kitB "int" "bool" = some false by decide +kernel]
  rfl
theorem isi_nb : isiF "bool" .non = some (.bl false) := by
  show (kitB "NoneType" "bool").map Dt.bl = _
  rw [show kitB "NoneType" "bool" = some false by decide +kernel]
  rfl
theorem RowD.items {r : Dt} {bs : List Bool} (h : RowD r bs) : itemsD r = some (bs.map .bl) := by
  rcases h with rfl | rfl
  · rfl
  · rfl
theorem tail_ok {bs : List Bool} (h1 : 1 ≤ bs.length) (h2 : bs.length ≤ 30) {r : Dt} (hr : RowD r bs) (a0 a1 a2 a6 a7 a8 : Option Vl) (ce : List Ce) :
    ∃ x1 x2 x3 x4 x5 x6 x7 x8 ce2, tailS ⟨[a0, a1, a2, some (.d (.tup (bs.map .bl))), some (.d r), some (.d (.tup ((bs.take (plLen bs bs.length)).map .bl))), a6, a7, a8], ce⟩ = some (.nx ⟨[a0, x1, x2, x3, x4, x5, x6, x7, x8], ce2⟩) := by
  have q1 := plLen_le bs bs.length
  have q2 := plLen_pos bs bs.length h1
  have hbit := bitB_plain h1
  have hsure := sure_first h1 h2
  have hh := fun c => height_ok hr h1 (by omega) c
  have hlp := fun c => lawplain_ok h1 (by omega : bs.length ≤ 1000) c
  have hit := hr.items
  generalize hp : plLen bs bs.length = p at *
  have tl : (bs.take p).length = p := by rw [List.length_take, Nat.min_eq_left q1]
  have hB5 : ∀ c, compM [7] (rng1M (consM (retM (.d (.int 40))) (retM []))) (nameG 7) (retM true) (callM f__law_bit (consM (fzV (vM 5)) (consM (fzV (vM 7)) (retM [])))) ⟨[a0, a1, a2, some (.d (.tup (bs.map .bl))), some (.d r), some (.d (.tup ((bs.take p).map .bl))), a6, a7, a8], c⟩ = some (.c c.length, ⟨[a0, a1, a2, some (.d (.tup (bs.map .bl))), some (.d r), some (.d (.tup ((bs.take p).map .bl))), a6, a7, a8], c ++ [.lst (((List.range 40).map fun i => bitB (bs.take p) (0 + i)).map .bl)]⟩) := fun c =>
    bits_comp (lo := 0) (n := 40) (by rw [tl]; omega) (by show 7 < 9; decide) (by decide) rfl (by decide) (zv_rng1 (zv_cons zv_ret zv_ret) (by decide))
  have hB3 : ∀ c, compM [7] (rng1M (consM (retM (.d (.int 40))) (retM []))) (nameG 7) (retM true) (callM f__law_bit (consM (fzV (vM 3)) (consM (fzV (vM 7)) (retM [])))) ⟨[a0, a1, a2, some (.d (.tup (bs.map .bl))), some (.d r), some (.d (.tup ((bs.take p).map .bl))), a6, a7, a8], c⟩ = some (.c c.length, ⟨[a0, a1, a2, some (.d (.tup (bs.map .bl))), some (.d r), some (.d (.tup ((bs.take p).map .bl))), a6, a7, a8], c ++ [.lst (((List.range 40).map fun i => bitB bs (0 + i)).map .bl)]⟩) := fun c =>
    bits_comp (lo := 0) (n := 40) h1 (by show 7 < 9; decide) (by decide) rfl (by decide) (zv_rng1 (zv_cons zv_ret zv_ret) (by decide))
  have eB : ((List.range 40).map fun i => bitB (bs.take p) (0 + i)) = ((List.range 40).map fun i => bitB bs (0 + i)) := List.map_congr_left fun i _ => hbit _
  rw [eB] at hB5
  have hS : ∀ c, ∃ gs, compM [7] (rng1M (consM (retM (.d (.int 31))) (retM []))) (nameG 7) (Hk.bindM (Hk.bindM (consM (compM [8] (rng2M (consM (vM 7) (consM (retM (.d (.int 40))) (retM [])))) (nameG 8) (retM true) (callM f__law_bit (consM (fzV (vM 3)) (consM (fzV (vM 8)) (retM []))))) (retM [])) (fn1 allD)) truM) (vM 7) ⟨[a0, a1, a2, some (.d (.tup (bs.map .bl))), some (.d r), some (.d (.tup ((bs.take p).map .bl))), a6, a7, a8], c⟩
      = some (.c c.length, ⟨[a0, a1, a2, some (.d (.tup (bs.map .bl))), some (.d r), some (.d (.tup ((bs.take p).map .bl))), a6, a7, a8], c ++ [.lst (givenD (rngL 0 (31 : Int).toNat).length (sureB bs) fun i => .int (i : Int))] ++ gs⟩) := fun c =>
    comp_gen (sureB bs) (fun i => .int (i : Int)) (zv_rng1 (zv_cons zv_ret zv_ret) (by decide)) (by show 7 < 9; decide) (by rw [rng_len]; decide) (fun i d x gs hd => by
      obtain ⟨hi, rfl⟩ := rng_at hd
      have hi2 : i < 31 := hi
      rw [Int.zero_add]
      have e := bits_comp (bs := bs) (j := 3) (v := 8) (sl := [a0, a1, a2, some (.d (.tup (bs.map .bl))), some (.d r), some (.d (.tup ((bs.take p).map .bl))), a6, some (.d (.int (i : Int))), a8]) (lo := i) (n := ((40 : Int) - (i : Int)).toNat) (ce := c ++ [x] ++ gs) h1 (by show 8 < 9; decide) (by decide) rfl (by omega) (zv_rng2 (zv_cons (zv_var (i := 7) rfl) (zv_cons zv_ret zv_ret)) ⟨by omega, by omega, by decide, by decide⟩)
      refine ⟨gs ++ [.lst (((List.range ((40 : Int) - (i : Int)).toNat).map fun j => bitB bs (i + j)).map .bl)], ?_, fun _ => ⟨_, zv_var rfl⟩⟩
      have e2 : sureB bs i = (((List.range ((40 : Int) - (i : Int)).toNat).map fun j => bitB bs (i + j)).all fun b => b) := by
        unfold sureB
        rw [show ((40 : Int) - (i : Int)).toNat = 40 - i by omega]
      rw [e2]
      refine zv_bind (zv_bind (zv_cons e zv_ret) (zv_fn1 (zv_seeC (get_new _ _)) (all_bls _))) ?_
      rw [List.append_assoc (c ++ [x])]
      exact zv_tru zv_seeD rfl)
  have it := @isi_tt ((bs.take p).map .bl)
  have hlp0 := hlp ce
  generalize hS0 : (List.range 31).filter (sureB bs) = S at hsure
  have hG : givenD (rngL 0 (31 : Int).toNat).length (sureB bs) (fun i => .int (i : Int)) = (S.map fun (n : Nat) => (n : Int)).map Dt.int := by
    rw [rng_len, ← hS0, List.map_map]
    rfl
  simp only [hG] at hS
  obtain ⟨gs, eS⟩ := hS (ce ++ [.lst (bs.map .bl)] ++ [.lst (bs.map .bl)] ++ [.lst (((List.range 40).map fun i => bitB bs (0 + i)).map .bl)] ++ [.lst (((List.range 40).map fun i => bitB bs (0 + i)).map .bl)])
  generalize hcc : ce ++ [Ce.lst (bs.map .bl)] ++ [Ce.lst (bs.map .bl)] ++ [Ce.lst (((List.range 40).map fun i => bitB bs (0 + i)).map .bl)] ++ [Ce.lst (((List.range 40).map fun i => bitB bs (0 + i)).map .bl)] = cc at eS
  have hd6 : isiF "bool" (if bs[bs.length - 1]? = some true then .int ((p : Int) - 1) else .non) = some (.bl false) := by
    split
    · exact isi_ib
    · exact isi_nb
  unfold tailS
  refine ⟨a1, a2, some (.d (.tup (bs.map .bl))), some (.d r), some (.d (.tup ((bs.take p).map .bl))), some (.c cc.length), a7, a8, cc ++ [.lst ((S.map fun (n : Nat) => (n : Int)).map Dt.int)] ++ gs ++ [.lst []], zk_seq (Q := .nx ⟨[a0, a1, a2, some (.d (.tup (bs.map .bl))), some (.d r), some (.d (.tup ((bs.take p).map .bl))), a6, a7, a8], ce ++ [.lst (bs.map .bl)] ++ [.lst (bs.map .bl)]⟩) ?_ (zk_nx (zk_seq (zk_if (zv_bind (zv_bind (hB5 _) (zv_bind (hB3 _) (zv_op2 (zv_seeC (get_mid _ _ _)) (zv_seeC (get_new _ _)) (zw_ne zq_blsL)))) zv_bool) (zps_F (by simp) zk_nil)) (zk_nx (zk_seq (zk_set (by rw [hcc]; exact eS)) (zk_nx ?_)))))⟩
  · walk_at "go"
  · show ifS _ _ _ ⟨[a0, a1, a2, some (.d (.tup (bs.map .bl))), some (.d r), some (.d (.tup ((bs.take p).map .bl))), some (.c cc.length), a7, a8], cc ++ [.lst ((S.map fun (n : Nat) => (n : Int)).map Dt.int)] ++ gs⟩ = _
    have g1 : ∀ l, (cc ++ [Ce.lst ((S.map fun (n : Nat) => (n : Int)).map Dt.int)] ++ gs ++ l)[cc.length]? = some (Ce.lst ((S.map fun (n : Nat) => (n : Int)).map Dt.int)) := fun l => by
      rw [List.append_assoc (cc ++ _)]
      exact get_mid _ _ _
    have hne : neF (.lst ((S.map fun (n : Nat) => (n : Int)).map Dt.int)) (.lst []) = some (.bl (!decide ((S.map fun (n : Nat) => (n : Int)) = []))) := zw_ne (zq_intsL (cs := []))
    cases hlast : decide (bs[bs.length - 1]? = some true) with
    | true =>
      have hl := of_decide_eq_true hlast
      rw [if_pos hl] at hsure
      have hS1 : S ≠ [] := fun e => by
        rw [e] at hsure
        cases hsure
      have hx : ixD (.lst ((S.map fun (n : Nat) => (n : Int)).map Dt.int)) (.int 0) = some (.int ((p : Int) - 1)) := by
        refine (atI_nat (j := 0) ?_ : atI _ ((0 : Nat) : Int) = _)
        rw [List.getElem?_map, List.getElem?_map, hsure]
        show some (Dt.int (((p - 1 : Nat)) : Int)) = _
        congr 2
        omega
      simp only [if_pos hl] at hh hd6
      refine zk_if (k := false) (zv_or (k := false) (zv_bind (zv_bind (zv_call (zv_cons (zv_fzV (zv_var rfl) zv_fzD) zv_ret) (hh _)) (zv_bind (zv_if (zv_bind (zv_bind (zv_var rfl) (zv_bind (zv_lst zv_ret (by decide) zv_fzA0 zv_newL) (zv_op2 (zv_seeC (g1 _)) (zv_seeC (get_new _ _)) hne))) zv_bool) (zpk_T (by simpa using hS1) (zv_bind (zv_var rfl) (zv_bind zv_ret (zv_ix (zv_seeC (g1 _)) zv_seeD hx))))) (zv_op2 zv_seeD zv_seeD (zw_ne zq_int)))) (by rw [show (((p : Int) - 1) == ((p : Int) - 1)) = true from beq_self_eq_true _]; exact zv_bool)) (zpk_F rfl (zv_bind (zv_bind (zv_call (zv_cons (zv_fzV (zv_var rfl) zv_fzD) zv_ret) (hh _)) (zv_see zv_seeD hd6)) (zv_tru zv_seeD rfl)))) (zps_F rfl zk_nil)
    | false =>
      have hl := of_decide_eq_false hlast
      rw [if_neg hl] at hsure
      have hS1 : S = [] := by
        cases S with
        | nil => rfl
        | cons x xs => cases hsure
      simp only [if_neg hl] at hh hd6
      refine zk_if (k := false) (zv_or (k := false) (zv_bind (zv_bind (zv_call (zv_cons (zv_fzV (zv_var rfl) zv_fzD) zv_ret) (hh _)) (zv_bind (zv_if (zv_bind (zv_bind (zv_var rfl) (zv_bind (zv_lst zv_ret (by decide) zv_fzA0 zv_newL) (zv_op2 (zv_seeC (g1 _)) (zv_seeC (get_new _ _)) hne))) zv_bool) (zpk_F (by simpa using hS1) zv_ret)) (zv_op2 zv_seeD zv_seeD (zw_ne (k := true) rfl)))) zv_bool) (zpk_F rfl (zv_bind (zv_bind (zv_call (zv_cons (zv_fzV (zv_var rfl) zv_fzD) zv_ret) (hh _)) (zv_see zv_seeD hd6)) (zv_tru zv_seeD rfl)))) (zps_F rfl zk_nil)
def turnS : En → Option Rs :=
  (seqS (setS 2 (callM f__law_stream (consM (fzV (vM 0)) (consM (fzV (vM 1)) (retM [])))))
    (seqS (setS 3 (callM (f__law_row f__law_draw) (consM (vM 2) (consM (retM (.d (.int 12))) (retM [])))))
    (seqS (setS 3 (Hk.bindM (vM 3) fun x => bindM (Hk.bindM (tupM (consM (Hk.bindM (vM 3) fun x => bindM (negM (retM (.d (.int 1)))) (ixF x)) (retM []))) fun x => bindM (callM f__law_draw (consM (vM 2) (consM (retM (.d (.int 18))) (retM [])))) (mulF x)) (addF x)))
    (seqS (setS 4 (ifM (Hk.bindM (Hk.bindM (callM f__law_draw (consM (vM 2) (consM (retM (.d (.int 2))) (retM [])))) fun x => bindM (retM (.d (.int 0))) (op2 eqF x)) boolM) (Hk.bindM (consM (vM 3) (retM [])) (listF)) (vM 3)))
    (seqS (setS 5 (callM f_plain (consM (fzV (vM 4)) (retM []))))
    tailS)))))
theorem frz_same {k : Nat} {xs : List Dt} : frzV k xs (.c k) = .d (.lst xs) := by
  show (if k = k then Vl.d (.lst xs) else .c k) = _
  rw [if_pos rfl]
theorem law_turn {ns : List Int} (i : Nat) (hi : i < 10) (s2 s3 s4 s5 s6 s7 s8 : Option Vl) (ce : List Ce) :
    ∃ x1 x2 x3 x4 x5 x6 x7 x8 ce2, turnS ⟨[some (.d (.sq (ns.map .int))), some (.d (.int (i : Int))), s2, s3, s4, s5, s6, s7, s8], ce⟩ = some (.nx ⟨[some (.d (.sq (ns.map .int))), x1, x2, x3, x4, x5, x6, x7, x8], ce2⟩) := by
  obtain ⟨xs, e1, hst⟩ := stream_ok ns i ce (by omega)
  obtain ⟨bs, ys, e2, b1, b2, hy⟩ := row_ok (most := 12) hst (get_new ce (.lst xs)) (by decide) (by decide) (by decide)
  rw [set_new] at e2
  obtain ⟨r, zs, e3, r0, r1, hz⟩ := draw_ok (m := 18) hy (get_new ce (.lst ys)) (by decide) (by decide) (by decide)
  rw [set_new] at e3
  obtain ⟨t, ws, e4, t0, t1, hw⟩ := draw_ok (m := 2) hz (get_new ce (.lst zs)) (by decide) (by decide) (by decide)
  rw [set_new] at e4
  have hbl : bs[bs.length - 1]? = some (bs[bs.length - 1]'(by omega)) := List.getElem?_eq_getElem _
  generalize bs[bs.length - 1]'(by omega) = b at hbl
  have x1 : ixD (.tup (bs.map .bl)) (.int (-1)) = some (.bl b) := by
    show atI (bs.map Dt.bl) (-1) = _
    unfold atI
    rw [List.length_map, show ixN bs.length (-1) = some (bs.length - 1) by unfold ixN; rw [if_neg (by omega), if_pos (by omega)]; congr 1; omega]
    exact bl_at hbl
  have hraw : bs.map Dt.bl ++ (List.replicate r.toNat [Dt.bl b]).flatten = (bs ++ List.replicate r.toNat b).map Dt.bl := by
    rw [List.map_append, List.map_replicate]
    congr 1
    simp
  have hb12 : bs.length ≤ 12 := by omega
  have f1 : 1 ≤ (bs ++ List.replicate r.toNat b).length := by rw [List.length_append]; omega
  have f2 : (bs ++ List.replicate r.toNat b).length ≤ 30 := by rw [List.length_append, List.length_replicate]; omega
  generalize bs ++ List.replicate r.toNat b = fs at hraw f1 f2
  by_cases ht : t = 0
  · have e5 := plain_ok (r := .lst (fs.map .bl)) (.inr rfl) f1 (by omega) ((ce ++ [Ce.lst ws] ++ [Ce.lst (fs.map Dt.bl)]).set (ce ++ [Ce.lst ws]).length .dead)
    obtain ⟨y1, y2, y3, y4, y5, y6, y7, y8, ce2, et⟩ := tail_ok f1 f2 (r := .lst (fs.map .bl)) (.inr rfl) (some (.d (.sq (ns.map .int)))) (some (.d (.int (i : Int)))) (Option.map (frzV (ce ++ [Ce.lst ws]).length (fs.map .bl)) (some (.c ce.length)))
      (Option.map (frzV (ce ++ [Ce.lst ws]).length (fs.map .bl)) s6) (Option.map (frzV (ce ++ [Ce.lst ws]).length (fs.map .bl)) s7) (Option.map (frzV (ce ++ [Ce.lst ws]).length (fs.map .bl)) s8) ((ce ++ [Ce.lst ws] ++ [Ce.lst (fs.map Dt.bl)]).set (ce ++ [Ce.lst ws]).length .dead)
    refine ⟨y1, y2, y3, y4, y5, y6, y7, y8, ce2, ?_⟩
    unfold turnS
    refine zk_seq (Q := .nx ⟨[some (.d (.sq (ns.map .int))), some (.d (.int (i : Int))), some (.c ce.length), s3, s4, s5, s6, s7, s8], ce ++ [.lst xs]⟩) (by apply zk_conv; (case h => walk_at "go"); (case e => rfl)) (zk_nx ?_)
    refine zk_seq (Q := .nx ⟨[some (.d (.sq (ns.map .int))), some (.d (.int (i : Int))), some (.c ce.length), some (.d (.tup (bs.map .bl))), s4, s5, s6, s7, s8], ce ++ [.lst ys]⟩) (by apply zk_conv; (case h => walk_at "go"); (case e => rfl)) (zk_nx ?_)
    refine zk_seq (Q := .nx ⟨[some (.d (.sq (ns.map .int))), some (.d (.int (i : Int))), some (.c ce.length), some (.d (.tup (fs.map .bl))), s4, s5, s6, s7, s8], ce ++ [.lst zs]⟩) (by rw [← hraw]; apply zk_conv; (case h => walk_at "go"); (case e => rfl)) (zk_nx ?_)
    refine zk_seq (Q := .nx ⟨[some (.d (.sq (ns.map .int))), some (.d (.int (i : Int))), some (.c ce.length), some (.d (.tup (fs.map .bl))), some (.c (ce ++ [Ce.lst ws]).length), s5, s6, s7, s8], ce ++ [.lst ws] ++ [.lst (fs.map .bl)]⟩) (by apply zk_conv; (case h => walk_at "go"); (case e => rfl)) (zk_nx ?_)
    refine zk_seq (zk_set (zv_call (zv_cons (zv_fzV (zv_var rfl) (zv_fzC (get_new _ _))) zv_ret) e5)) (zk_nx ?_)
    show tailS ⟨[some (.d (.sq (ns.map .int))), some (.d (.int (i : Int))), Option.map (frzV (ce ++ [Ce.lst ws]).length (fs.map .bl)) (some (.c ce.length)), some (.d (.tup (fs.map .bl))), some (frzV (ce ++ [Ce.lst ws]).length (fs.map .bl) (.c (ce ++ [Ce.lst ws]).length)), some (.d (.tup ((fs.take (plLen fs fs.length)).map .bl))), Option.map (frzV (ce ++ [Ce.lst ws]).length (fs.map .bl)) s6, Option.map (frzV (ce ++ [Ce.lst ws]).length (fs.map .bl)) s7, Option.map (frzV (ce ++ [Ce.lst ws]).length (fs.map .bl)) s8], (ce ++ [Ce.lst ws] ++ [Ce.lst (fs.map Dt.bl)]).set (ce ++ [Ce.lst ws]).length .dead⟩ = _
    rw [frz_same]
    exact et
  · have e5 := plain_ok (r := .tup (fs.map .bl)) (.inl rfl) f1 (by omega) (ce ++ [.lst ws])
    obtain ⟨y1, y2, y3, y4, y5, y6, y7, y8, ce2, et⟩ := tail_ok f1 f2 (r := .tup (fs.map .bl)) (.inl rfl) (some (.d (.sq (ns.map .int)))) (some (.d (.int (i : Int)))) (some (.c ce.length)) s6 s7 s8 (ce ++ [.lst ws])
    refine ⟨y1, y2, y3, y4, y5, y6, y7, y8, ce2, ?_⟩
    unfold turnS
    refine zk_seq (Q := .nx ⟨[some (.d (.sq (ns.map .int))), some (.d (.int (i : Int))), some (.c ce.length), s3, s4, s5, s6, s7, s8], ce ++ [.lst xs]⟩) (by apply zk_conv; (case h => walk_at "go"); (case e => rfl)) (zk_nx ?_)
    refine zk_seq (Q := .nx ⟨[some (.d (.sq (ns.map .int))), some (.d (.int (i : Int))), some (.c ce.length), some (.d (.tup (bs.map .bl))), s4, s5, s6, s7, s8], ce ++ [.lst ys]⟩) (by apply zk_conv; (case h => walk_at "go"); (case e => rfl)) (zk_nx ?_)
    refine zk_seq (Q := .nx ⟨[some (.d (.sq (ns.map .int))), some (.d (.int (i : Int))), some (.c ce.length), some (.d (.tup (fs.map .bl))), s4, s5, s6, s7, s8], ce ++ [.lst zs]⟩) (by rw [← hraw]; apply zk_conv; (case h => walk_at "go"); (case e => rfl)) (zk_nx ?_)
    refine zk_seq (Q := .nx ⟨[some (.d (.sq (ns.map .int))), some (.d (.int (i : Int))), some (.c ce.length), some (.d (.tup (fs.map .bl))), some (.d (.tup (fs.map .bl))), s5, s6, s7, s8], ce ++ [.lst ws]⟩) (by apply zk_conv; (case h => walk_at "go"); (case e => rfl)) (zk_nx ?_)
    exact zk_seq (zk_set (zv_call (zv_cons (zv_fzV (zv_var rfl) zv_fzD) zv_ret) e5)) (zk_nx et)
theorem law_true (ns : List Int) : f_law f__law_stream (f__law_row f__law_draw) f__law_draw f_plain f__law_plain f__law_bit (f_height f_plain) [.d (.sq (ns.map .int))] [] = some (.d (.bl true), []) := by
  obtain ⟨E2, e, x1, x2, x3, x4, x5, x6, x7, x8, ce2, rfl⟩ := for_inv (g := nameG 1) (m := turnS) (fun i E => ∃ x1 x2 x3 x4 x5 x6 x7 x8 ce2, E = ⟨[some (.d (.sq (ns.map .int))), x1, x2, x3, x4, x5, x6, x7, x8], ce2⟩) (rngL 0 10) 0 ⟨[some (.d (.sq (ns.map .int))), none, none, none, none, none, none, none, none], []⟩
    ⟨none, none, none, none, none, none, none, none, [], rfl⟩ (fun i d E hd hp => by
      obtain ⟨x1, x2, x3, x4, x5, x6, x7, x8, ce2, rfl⟩ := hp
      obtain ⟨hi, rfl⟩ := rng_at hd
      rw [Int.zero_add]
      obtain ⟨y1, y2, y3, y4, y5, y6, y7, y8, ce3, et⟩ := law_turn (ns := ns) i hi x2 x3 x4 x5 x6 x7 x8 ce2
      exact ⟨_, _, rfl, et, y1, y2, y3, y4, y5, y6, y7, y8, ce3, rfl⟩)
  unfold f_law
  refine zf_rt (E := ⟨[some (.d (.sq (ns.map .int))), x1, x2, x3, x4, x5, x6, x7, x8], ce2⟩) (r := .d (.bl true)) ?_ (trim_d rfl)
  unfold m_law
  exact zk_seq (zk_for (zv_rng1 (zv_cons zv_ret zv_ret) (by decide)) e) (zk_nx (zk_ret zv_ret))
theorem all_mk {l : PySem.W.OpenLaw} {w : World} {K : PySem.W.Frag} {h : Heap} {mg : Str → Option Value} {fa : Addr} (X : K.In h) (G : h.Ns mainGlobals mg) (hfa : mg "law" = some (.ref fa))
    {f1 f2 f3 f4 f5 f6 f7 f8 : Addr} {od1 an1 od2 an2 od3 an3 od4 an4 od5 an5 od6 an6 od7 an7 od8 an8 : Option Addr} {sl1 sl2 sl3 sl4 sl5 sl6 sl7 sl8 : Array (Option Value)}
    {oc1 kV1 dc1 pm1 cd1 ct1 oc2 kV2 dc2 pm2 cd2 ct2 oc3 kV3 dc3 pm3 cd3 ct3 oc4 kV4 dc4 pm4 cd4 ct4 oc5 kV5 dc5 pm5 cd5 ct5 oc6 kV6 dc6 pm6 cd6 ct6 oc7 kV7 dc7 pm7 cd7 ct7 oc8 kV8 dc8 pm8 cd8 ct8 : Value}
    (a1 : PySem.W.nsIn K mainGlobals "plain" = some (some (.ref f1)))
    (l1 : K.lookup f1 = some ⟨oc1, od1, .func (PySem.W.fnOf "plain" "plain" (defArgs s_plain) (defBody s_plain) (defScope s_plain) .none kV1 dc1 pm1 an1 cd1 ct1), sl1⟩)
    (c1 : PySem.W.codeIn K cd1 "plain" = true) (k1 : PySem.W.keepIn K (.ref f1) = true)
    (a2 : PySem.W.nsIn K mainGlobals "height" = some (some (.ref f2)))
    (l2 : K.lookup f2 = some ⟨oc2, od2, .func (PySem.W.fnOf "height" "height" (defArgs s_height) (defBody s_height) (defScope s_height) .none kV2 dc2 pm2 an2 cd2 ct2), sl2⟩)
    (c2 : PySem.W.codeIn K cd2 "height" = true) (k2 : PySem.W.keepIn K (.ref f2) = true)
    (a3 : PySem.W.nsIn K mainGlobals "_law_stream" = some (some (.ref f3)))
    (l3 : K.lookup f3 = some ⟨oc3, od3, .func (PySem.W.fnOf "_law_stream" "_law_stream" (defArgs s__law_stream) (defBody s__law_stream) (defScope s__law_stream) .none kV3 dc3 pm3 an3 cd3 ct3), sl3⟩)
    (c3 : PySem.W.codeIn K cd3 "_law_stream" = true) (k3 : PySem.W.keepIn K (.ref f3) = true)
    (a4 : PySem.W.nsIn K mainGlobals "_law_draw" = some (some (.ref f4)))
    (l4 : K.lookup f4 = some ⟨oc4, od4, .func (PySem.W.fnOf "_law_draw" "_law_draw" (defArgs s__law_draw) (defBody s__law_draw) (defScope s__law_draw) .none kV4 dc4 pm4 an4 cd4 ct4), sl4⟩)
    (c4 : PySem.W.codeIn K cd4 "_law_draw" = true) (k4 : PySem.W.keepIn K (.ref f4) = true)
    (a5 : PySem.W.nsIn K mainGlobals "_law_row" = some (some (.ref f5)))
    (l5 : K.lookup f5 = some ⟨oc5, od5, .func (PySem.W.fnOf "_law_row" "_law_row" (defArgs s__law_row) (defBody s__law_row) (defScope s__law_row) .none kV5 dc5 pm5 an5 cd5 ct5), sl5⟩)
    (c5 : PySem.W.codeIn K cd5 "_law_row" = true) (k5 : PySem.W.keepIn K (.ref f5) = true)
    (a6 : PySem.W.nsIn K mainGlobals "_law_bit" = some (some (.ref f6)))
    (l6 : K.lookup f6 = some ⟨oc6, od6, .func (PySem.W.fnOf "_law_bit" "_law_bit" (defArgs s__law_bit) (defBody s__law_bit) (defScope s__law_bit) .none kV6 dc6 pm6 an6 cd6 ct6), sl6⟩)
    (c6 : PySem.W.codeIn K cd6 "_law_bit" = true) (k6 : PySem.W.keepIn K (.ref f6) = true)
    (a7 : PySem.W.nsIn K mainGlobals "_law_plain" = some (some (.ref f7)))
    (l7 : K.lookup f7 = some ⟨oc7, od7, .func (PySem.W.fnOf "_law_plain" "_law_plain" (defArgs s__law_plain) (defBody s__law_plain) (defScope s__law_plain) .none kV7 dc7 pm7 an7 cd7 ct7), sl7⟩)
    (c7 : PySem.W.codeIn K cd7 "_law_plain" = true) (k7 : PySem.W.keepIn K (.ref f7) = true)
    (a8 : PySem.W.nsIn K mainGlobals "law" = some (some (.ref f8)))
    (l8 : K.lookup f8 = some ⟨oc8, od8, .func (PySem.W.fnOf "law" "law" (defArgs s_law) (defBody s_law) (defScope s_law) .none kV8 dc8 pm8 an8 cd8 ct8), sl8⟩)
    (c8 : PySem.W.codeIn K cd8 "law" = true) (k8 : PySem.W.keepIn K (.ref f8) = true)
    (z1 : PySem.W.nsIn K mainGlobals "abs" = some none)
    (z2 : PySem.W.nsIn K mainGlobals "all" = some none)
    (z3 : PySem.W.nsIn K mainGlobals "bool" = some none)
    (z4 : PySem.W.nsIn K mainGlobals "int" = some none)
    (z5 : PySem.W.nsIn K mainGlobals "isinstance" = some none)
    (z6 : PySem.W.nsIn K mainGlobals "len" = some none)
    (z7 : PySem.W.nsIn K mainGlobals "list" = some none)
    (z8 : PySem.W.nsIn K mainGlobals "min" = some none)
    (z9 : PySem.W.nsIn K mainGlobals "range" = some none)
    (z10 : PySem.W.nsIn K mainGlobals "tuple" = some none)
    : ∃ fd : FuncData, (∀ (s : Shared) (v : Value), BindsTo s fd ⟨[v], []⟩ [("_law_script", v)]) ∧ ∀ base : Heap, K.In base → base.Ns mainGlobals mg → FnOk l.prog w K mg base CX0 3 fa fd ["_law_script"] (spLaw K) := by
  have e := hfa.symm.trans (PySem.W.mg_of X G a8)
  cases e
  have F1 := fun_mk (st := s_plain) l1 c1 k1
  have F2 := fun_mk (st := s_height) l2 c2 k2
  have F3 := fun_mk (st := s__law_stream) l3 c3 k3
  have F4 := fun_mk (st := s__law_draw) l4 c4 k4
  have F5 := fun_mk (st := s__law_row) l5 c5 k5
  have F6 := fun_mk (st := s__law_bit) l6 c6 k6
  have F7 := fun_mk (st := s__law_plain) l7 c7 k7
  have F8 := fun_mk (st := s_law) l8 c8 k8
  have T : Txt K mg ⟨f1, _, f2, _, f3, _, f4, _, f5, _, f6, _, f7, _, fa, _⟩ := ⟨F1, F1.binds (ps := ["row"]) (fun _ _ _ _ _ _ us hl => match us, hl with | [_], _ => rfl), PySem.W.mg_of X G a1, F2, F2.binds (ps := ["row"]) (fun _ _ _ _ _ _ us hl => match us, hl with | [_], _ => rfl), PySem.W.mg_of X G a2, F3, F3.binds (ps := ["_law_script", "_law_k"]) (fun _ _ _ _ _ _ us hl => match us, hl with | [_, _], _ => rfl), PySem.W.mg_of X G a3, F4, F4.binds (ps := ["_law_stream_here", "_law_many"]) (fun _ _ _ _ _ _ us hl => match us, hl with | [_, _], _ => rfl), PySem.W.mg_of X G a4, F5, F5.binds (ps := ["_law_stream_here", "_law_most"]) (fun _ _ _ _ _ _ us hl => match us, hl with | [_, _], _ => rfl), PySem.W.mg_of X G a5, F6, F6.binds (ps := ["_law_row_here", "_law_level"]) (fun _ _ _ _ _ _ us hl => match us, hl with | [_, _], _ => rfl), PySem.W.mg_of X G a6, F7, F7.binds (ps := ["_law_row_here"]) (fun _ _ _ _ _ _ us hl => match us, hl with | [_], _ => rfl), PySem.W.mg_of X G a7, F8, F8.binds (ps := ["_law_script"]) (fun _ _ _ _ _ _ us hl => match us, hl with | [_], _ => rfl), PySem.W.mg_of X G a8, PySem.W.mg_none_of X G z1, PySem.W.mg_none_of X G z2, PySem.W.mg_none_of X G z3, PySem.W.mg_none_of X G z4, PySem.W.mg_none_of X G z5, PySem.W.mg_none_of X G z6, PySem.W.mg_none_of X G z7, PySem.W.mg_none_of X G z8, PySem.W.mg_none_of X G z9, PySem.W.mg_none_of X G z10⟩
  refine ⟨PySem.W.fnOf "law" "law" (defArgs s_law) (defBody s_law) (defScope s_law) .none kV8 dc8 pm8 an8 cd8 ct8, fun s v => .of_eq rfl, fun base _ _ => ?_⟩
  have G_plain := ok_plain (P := l.prog) (w := w) (base := base) T
  have G__law_stream := ok__law_stream (P := l.prog) (w := w) (base := base) T
  have G__law_draw := ok__law_draw (P := l.prog) (w := w) (base := base) T
  have G__law_bit := ok__law_bit (P := l.prog) (w := w) (base := base) T
  have G__law_plain := ok__law_plain (P := l.prog) (w := w) (base := base) T
  have G_height := ok_height (P := l.prog) (w := w) (base := base) T G_plain
  have G__law_row := ok__law_row (P := l.prog) (w := w) (base := base) T G__law_draw
  have G_law := ok_law (P := l.prog) (w := w) (base := base) T G__law_stream G__law_row G__law_draw G_plain G__law_plain G__law_bit G_height
  exact G_law.imp (law_of fun ns hl => law_true ns)
end K07
open PySem PySem.W PyProof.Rows
set_option maxHeartbeats 0 in
theorem PySem.Challenge.cw_boxfall_k07_plain_rows_holds : PySem.Challenge.rw_boxfall_k07_plain_rows.Holds := by
  w_on; o_law; k_head; (case hw => w_witness2)
  k_fill
  refine L2.walk_of (l := PySem.Challenge.rw_boxfall_k07_plain_rows) (n := 63) (k := 3) (x := "_law_script") (CX := fun _ => L2.CX0) (sp := fun w => Hk.spLaw _) rfl (by decide) rfl ⟨rfl, by decide, by decide⟩ (fun w h Y => PySem.W.kIn_of Y) ?F (fun _ _ a ns hl _ hS => ⟨a, ns, rfl, hS, hl, fun _ => rfl⟩) (fun _ _ _ _ _ h => h)
  case F =>
    intro w mg fa h KX G hmg
    refine' K07.all_mk KX G hmg ?a1 ?l1 ?c1 ?k1 ?a2 ?l2 ?c2 ?k2 ?a3 ?l3 ?c3 ?k3 ?a4 ?l4 ?c4 ?k4 ?a5 ?l5 ?c5 ?k5 ?a6 ?l6 ?c6 ?k6 ?a7 ?l7 ?c7 ?k7 ?a8 ?l8 ?c8 ?k8 ?z1 ?z2 ?z3 ?z4 ?z5 ?z6 ?z7 ?z8 ?z9 ?z10
    (case a1 => k_is)
    (case l1 => k_is)
    (case c1 => k_is)
    (case k1 => k_is)
    (case a2 => k_is)
    (case l2 => k_is)
    (case c2 => k_is)
    (case k2 => k_is)
    (case a3 => k_is)
    (case l3 => k_is)
    (case c3 => k_is)
    (case k3 => k_is)
    (case a4 => k_is)
    (case l4 => k_is)
    (case c4 => k_is)
    (case k4 => k_is)
    (case a5 => k_is)
    (case l5 => k_is)
    (case c5 => k_is)
    (case k5 => k_is)
    (case a6 => k_is)
    (case l6 => k_is)
    (case c6 => k_is)
    (case k6 => k_is)
    (case a7 => k_is)
    (case l7 => k_is)
    (case c7 => k_is)
    (case k7 => k_is)
    (case a8 => k_is)
    (case l8 => k_is)
    (case c8 => k_is)
    (case k8 => k_is)
    (case z1 => k_is)
    (case z2 => k_is)
    (case z3 => k_is)
    (case z4 => k_is)
    (case z5 => k_is)
    (case z6 => k_is)
    (case z7 => k_is)
    (case z8 => k_is)
    (case z9 => k_is)
    (case z10 => k_is)
