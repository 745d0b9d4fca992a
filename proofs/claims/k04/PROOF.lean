import PyProof.Rows.All
import Wide.All
import OpenK.AllK
import Wide.FinOn
import HandS.ForMost
import HandS.Wide
import HandS.Evl
import HandS.Flow
import HandS.IsInst
import HandS.TupAny
import HandS.TupMul
import HandS.OwnEq
import HandS.Text
import HandS.Style
import HandS.More
import HandS.FStr
import HandS.ClsMeth
import PySem.Challenge.RW_boxfall_k04_texts_of_sayings
set_option Elab.async false
set_option linter.all false
set_option maxRecDepth 100000
set_option maxHeartbeats 4000000
/-! Hk1: a def as a plain function over data and cells: the state, its relation to the heap, the judgements. -/
namespace Hk
open PySem PySem.Spec PyProof.Rows L2 Evl

/-- data that stands still; an object of an own class that is never changed; a dict that is never changed -/
inductive Dt where
  | non | bl (b : Bool) | int (i : Int) | str (s : Str)
  | lst (xs : List Dt) | tup (xs : List Dt) | sq (xs : List Dt)
  | obj (C : Str) (ns : List Str) (ds : List Dt)
  | dic (ks : List Key) (ds : List Dt)
  | cls (C : Str)
/-- where the class of a name stands -/
def clA (K : PySem.W.Frag) (C : Str) : Addr := match PySem.W.nsIn K PySem.mainGlobals C with
  | some (some (.ref a)) => a
  | _ => 0
/-- a value: data, the k-th cell, a tuple that holds cells -/
inductive Vl where
  | d (d : Dt) | c (k : Nat) | t (rs : List Vl)
/-- a cell, a thing that may change and holds data alone: a list, an instance, a dict; one that is data by now; any other thing at its address -/
inductive Ce where
  | dead | lst (xs : List Dt)
  | ins (C : Str) (ns : List Str) (ds : List Dt)
  | dic (ks : List Key) (ds : List Dt) | dit (ks : List (List Key)) (ds : List Dt)
  | pin (o : HO)
structure En where
  sl : List (Option Vl)
  ce : List Ce

mutual
def Rp (K : PySem.W.Frag) (H : Hp) : Dt → V → Prop
  | .non, v => v = .non
  | .bl b, v => v = .bl b
  | .int i, v => v = .int i
  | .str s, v => v = .str s
  | .lst ds, v => ∃ a xs, v = .ref a ∧ H a = some (.lst xs) ∧ RpA K H ds xs
  | .sq ds, v => ∃ a xs, v = .ref a ∧ SqL K H a xs ∧ RpA K H ds xs
  | .tup ds, v => ∃ a xs, v = .ref a ∧ SqT K H a xs ∧ RpA K H ds xs
  | .obj C ns ds, v => ∃ a dx fs, v = .ref a ∧ H a = some (.ins (clA K C) dx fs) ∧ fs.map (·.1) = ns ∧ RpA K H ds (fs.map (·.2))
  | .dic ks ds, v => ∃ a kvs, v = .ref a ∧ H a = some (.dK kvs) ∧ kvs.map (·.1) = ks ∧ RpA K H ds (kvs.map (·.2))
  | .cls C, v => v = .ref (clA K C)
def RpA (K : PySem.W.Frag) (H : Hp) : List Dt → List V → Prop
  | [], xs => xs = []
  | d :: ds, xs => ∃ x r, xs = x :: r ∧ Rp K H d x ∧ RpA K H ds r
end

mutual
theorem Rp.ex {K : PySem.W.Frag} {H H' : Hp} (e : Ex H H') : ∀ (d : Dt) (v : V), Rp K H d v → Rp K H' d v
  | .non, v, h => h
  | .bl _, v, h => h
  | .int _, v, h => h
  | .str _, v, h => h
  | .lst ds, v, h => by
    obtain ⟨a, xs, h1, h2, h3⟩ := h
    exact ⟨a, xs, h1, e a _ h2, RpA.ex e ds xs h3⟩
  | .sq ds, v, h => by
    obtain ⟨a, xs, h1, h2, h3⟩ := h
    exact ⟨a, xs, h1, ex_l e h2, RpA.ex e ds xs h3⟩
  | .tup ds, v, h => by
    obtain ⟨a, xs, h1, h2, h3⟩ := h
    exact ⟨a, xs, h1, ex_t e h2, RpA.ex e ds xs h3⟩
  | .obj C ns ds, v, h => by
    obtain ⟨a, dx, fs, h1, h2, h3, h4⟩ := h
    exact ⟨a, dx, fs, h1, e a _ h2, h3, RpA.ex e ds _ h4⟩
  | .dic ks ds, v, h => by
    obtain ⟨a, kvs, h1, h2, h3, h4⟩ := h
    exact ⟨a, kvs, h1, e a _ h2, h3, RpA.ex e ds _ h4⟩
  | .cls _, v, h => h
theorem RpA.ex {K : PySem.W.Frag} {H H' : Hp} (e : Ex H H') : ∀ (ds : List Dt) (vs : List V), RpA K H ds vs → RpA K H' ds vs
  | [], vs, h => h
  | d :: ds, vs, h => by
    obtain ⟨x, r, h1, h2, h3⟩ := h
    exact ⟨x, r, h1, Rp.ex e d x h2, RpA.ex e ds r h3⟩
end

section
variable {K : PySem.W.Frag} {H Hd : Hp}
theorem RpA.len : ∀ {ds : List Dt} {vs : List V}, RpA K H ds vs → vs.length = ds.length
  | [], vs, h => by
    rw [show vs = [] from h]
    rfl
  | d :: ds, vs, h => by
    obtain ⟨x, r, rfl, _, h3⟩ := h
    rw [List.length_cons, List.length_cons, RpA.len h3]
theorem RpA.at : ∀ {ds : List Dt} {vs : List V} {i : Nat} {d : Dt}, RpA K H ds vs → ds[i]? = some d → ∃ v, vs[i]? = some v ∧ Rp K H d v
  | [], vs, i, d, h, e => by simp at e
  | d :: ds, vs, 0, d', h, e => by
    obtain ⟨x, r, rfl, h2, h3⟩ := h
    have e2 : d = d' := Option.some.inj e
    exact ⟨x, rfl, e2 ▸ h2⟩
  | d :: ds, vs, i + 1, d', h, e => by
    obtain ⟨x, r, rfl, h2, h3⟩ := h
    obtain ⟨v, g1, g2⟩ := RpA.at (i := i) h3 e
    exact ⟨v, g1, g2⟩
theorem RpA.app : ∀ {ds es : List Dt} {vs us : List V}, RpA K H ds vs → RpA K H es us → RpA K H (ds ++ es) (vs ++ us)
  | [], es, vs, us, h, g => by
    rw [show vs = [] from h]
    exact g
  | d :: ds, es, vs, us, h, g => by
    obtain ⟨x, r, rfl, h2, h3⟩ := h
    exact ⟨x, r ++ us, rfl, h2, RpA.app h3 g⟩
theorem RpA.one {d : Dt} {v : V} (h : Rp K H d v) : RpA K H [d] [v] := ⟨v, [], rfl, h, rfl⟩
theorem RpA.drop : ∀ (n : Nat) {ds : List Dt} {vs : List V}, RpA K H ds vs → RpA K H (ds.drop n) (vs.drop n)
  | 0, ds, vs, h => h
  | n + 1, [], vs, h => by
    rw [show vs = [] from h]
    exact (rfl : ([] : List V) = [])
  | n + 1, d :: ds, vs, h => by
    obtain ⟨x, r, rfl, h2, h3⟩ := h
    exact RpA.drop n h3
theorem RpA.take : ∀ (n : Nat) {ds : List Dt} {vs : List V}, RpA K H ds vs → RpA K H (ds.take n) (vs.take n)
  | 0, ds, vs, h => (rfl : ([] : List V) = [])
  | n + 1, [], vs, h => by
    rw [show vs = [] from h]
    exact (rfl : ([] : List V) = [])
  | n + 1, d :: ds, vs, h => by
    obtain ⟨x, r, rfl, h2, h3⟩ := h
    exact ⟨x, r.take n, rfl, h2, RpA.take n h3⟩
theorem RpA.rep {d : Dt} {v : V} (h : Rp K H d v) : ∀ n, RpA K H (List.replicate n d) (List.replicate n v)
  | 0 => (rfl : ([] : List V) = [])
  | n + 1 => ⟨v, List.replicate n v, rfl, h, RpA.rep h n⟩
theorem RpA.dropLast : ∀ {ds : List Dt} {vs : List V}, RpA K H ds vs → RpA K H ds.dropLast vs.dropLast := fun {ds} {vs} h => by
  rw [List.dropLast_eq_take, List.dropLast_eq_take, RpA.len h]
  exact RpA.take _ h
theorem RpA.set : ∀ {ds : List Dt} {vs : List V} {d : Dt} {v : V} (j : Nat), RpA K H ds vs → Rp K H d v → RpA K H (ds.set j d) (vs.set j v)
  | [], vs, d, v, j, h, g => by
    rw [show vs = [] from h]
    exact (rfl : ([] : List V) = [])
  | d' :: ds, vs, d, v, 0, h, g => by
    obtain ⟨x, r, rfl, h2, h3⟩ := h
    exact ⟨v, r, rfl, g, h3⟩
  | d' :: ds, vs, d, v, j + 1, h, g => by
    obtain ⟨x, r, rfl, h2, h3⟩ := h
    exact ⟨x, r.set j v, rfl, h2, RpA.set j h3 g⟩

/-! ### values, cells, slots -/
mutual
def Rv (K : PySem.W.Frag) (μ : List Addr) (Hd : Hp) : Vl → V → Prop
  | .d d, v => Rp K Hd d v
  | .c k, v => ∃ a, μ[k]? = some a ∧ v = .ref a
  | .t rs, v => ∃ a vs, v = .ref a ∧ SqT K Hd a vs ∧ RvL K μ Hd rs vs
def RvL (K : PySem.W.Frag) (μ : List Addr) (Hd : Hp) : List Vl → List V → Prop
  | [], vs => vs = []
  | r :: rs, vs => ∃ x q, vs = x :: q ∧ Rv K μ Hd r x ∧ RvL K μ Hd rs q
end
structure Gr (μ : List Addr) (Hd : Hp) (μ' : List Addr) (Hd' : Hp) : Prop where
  pre : ∀ (k : Nat) (a : Addr), μ[k]? = some a → μ'[k]? = some a
  ex : Ex Hd Hd'
theorem Gr.refl (μ : List Addr) (Hd : Hp) : Gr μ Hd μ Hd := ⟨fun _ _ h => h, Ex.refl Hd⟩
theorem Gr.trans {μ μ1 μ2 : List Addr} {Hd H1 H2 : Hp} (a : Gr μ Hd μ1 H1) (b : Gr μ1 H1 μ2 H2) : Gr μ Hd μ2 H2 := ⟨fun k x h => b.pre k x (a.pre k x h), a.ex.trans b.ex⟩
mutual
theorem Rv.gr {μ μ' : List Addr} {Hd Hd' : Hp} (g : Gr μ Hd μ' Hd') : ∀ {r : Vl} {v : V}, Rv K μ Hd r v → Rv K μ' Hd' r v
  | .d d, v, h => Rp.ex g.ex d v h
  | .c k, v, ⟨a, h1, h2⟩ => ⟨a, g.pre k a h1, h2⟩
  | .t rs, v, ⟨a, vs, h1, h2, h3⟩ => ⟨a, vs, h1, ex_t g.ex h2, RvL.gr g h3⟩
theorem RvL.gr {μ μ' : List Addr} {Hd Hd' : Hp} (g : Gr μ Hd μ' Hd') : ∀ {rs : List Vl} {vs : List V}, RvL K μ Hd rs vs → RvL K μ' Hd' rs vs
  | [], vs, h => h
  | r :: rs, vs, ⟨x, q, h1, h2, h3⟩ => ⟨x, q, h1, Rv.gr g h2, RvL.gr g h3⟩
end
inductive RvA (K : PySem.W.Frag) (μ : List Addr) (Hd : Hp) : List Vl → List V → Prop
  | nil : RvA K μ Hd [] []
  | cons {r : Vl} {v : V} {rs : List Vl} {vs : List V} : Rv K μ Hd r v → RvA K μ Hd rs vs → RvA K μ Hd (r :: rs) (v :: vs)
theorem RvA.gr {μ μ' : List Addr} {Hd Hd' : Hp} (g : Gr μ Hd μ' Hd') : ∀ {rs : List Vl} {vs : List V}, RvA K μ Hd rs vs → RvA K μ' Hd' rs vs
  | _, _, .nil => .nil
  | _, _, .cons h t => .cons (Rv.gr g h) (RvA.gr g t)
theorem RvA.len {μ : List Addr} : ∀ {rs : List Vl} {vs : List V}, RvA K μ Hd rs vs → vs.length = rs.length
  | _, _, .nil => rfl
  | _, _, .cons h t => by rw [List.length_cons, List.length_cons, RvA.len t]
theorem RvA.l {μ : List Addr} : ∀ {rs : List Vl} {vs : List V}, RvA K μ Hd rs vs → RvL K μ Hd rs vs
  | _, _, .nil => rfl
  | _, _, .cons h t => ⟨_, _, rfl, h, RvA.l t⟩
theorem RvL.a {μ : List Addr} : ∀ {rs : List Vl} {vs : List V}, RvL K μ Hd rs vs → RvA K μ Hd rs vs
  | [], vs, h => by
    rw [show vs = [] from h]
    exact .nil
  | r :: rs, vs, h => by
    obtain ⟨x, q, rfl, h2, h3⟩ := h
    exact .cons h2 (RvL.a h3)
/-- what an object holds, for a cell -/
def HoAt (K : PySem.W.Frag) (Hd : Hp) : Ce → HO → Prop
  | .dead, _ => True
  | .lst xs, o => ∃ vs, o = .lst vs ∧ RpA K Hd xs vs
  | .ins C ns ds, o => ∃ dx fs, o = .ins (clA K C) dx fs ∧ fs.map (·.1) = ns ∧ RpA K Hd ds (fs.map (·.2))
  | .dic ks ds, o => ∃ kvs, o = .dK kvs ∧ kvs.map (·.1) = ks ∧ RpA K Hd ds (kvs.map (·.2))
  | .dit ks ds, o => ∃ kvs, o = .dT kvs ∧ kvs.map (·.1) = ks ∧ RpA K Hd ds (kvs.map (·.2))
  | .pin u, o => o = u
theorem HoAt.ex {Hd Hd' : Hp} (g : Ex Hd Hd') : ∀ {c : Ce} {o : HO}, HoAt K Hd c o → HoAt K Hd' c o
  | .dead, _, _ => True.intro
  | .lst xs, o, ⟨vs, e, h⟩ => ⟨vs, e, RpA.ex g xs vs h⟩
  | .ins C ns ds, o, ⟨dx, fs, e, hn, h⟩ => ⟨dx, fs, e, hn, RpA.ex g _ _ h⟩
  | .dic ks ds, o, ⟨kvs, e, hn, h⟩ => ⟨kvs, e, hn, RpA.ex g _ _ h⟩
  | .dit ks ds, o, ⟨kvs, e, hn, h⟩ => ⟨kvs, e, hn, RpA.ex g _ _ h⟩
  | .pin u, o, h => h
def Ce.live : Ce → Bool
  | .dead => false
  | _ => true
structure Wo (K : PySem.W.Frag) (μ : List Addr) (Hd H : Hp) (ce : List Ce) : Prop where
  ex : Ex Hd H
  len : μ.length = ce.length
  at_ : ∀ (k : Nat) (c : Ce) (a : Addr), ce[k]? = some c → μ[k]? = some a → c.live = true → Hd a = none ∧ ∃ o, H a = some o ∧ HoAt K Hd c o
  inj : ∀ (j k : Nat) (a : Addr) (c e : Ce), μ[j]? = some a → μ[k]? = some a → ce[j]? = some c → ce[k]? = some e → c.live = true → e.live = true → j = k
theorem Wo.lst {μ : List Addr} {ce : List Ce} {k : Nat} {a : Addr} {xs : List Dt} (w : Wo K μ Hd H ce) (hk : ce[k]? = some (.lst xs)) (ha : μ[k]? = some a) : Hd a = none ∧ ∃ vs, H a = some (.lst vs) ∧ RpA K Hd xs vs := by
  obtain ⟨h1, o, h2, vs, rfl, h3⟩ := w.at_ k _ a hk ha rfl
  exact ⟨h1, vs, h2, h3⟩
def Sl (K : PySem.W.Frag) (μ : List Addr) (Hd : Hp) (σ : L2.St) (sl : List (Option Vl)) : Prop :=
  σ.length = sl.length ∧ ∀ (i : Nat) (r : Vl), sl[i]? = some (some r) → ∃ v, σ[i]? = some (some v) ∧ Rv K μ Hd r v
structure Rl (K : PySem.W.Frag) (μ : List Addr) (Hd H : Hp) (σ : L2.St) (E : En) : Prop where
  wo : Wo K μ Hd H E.ce
  sl : Sl K μ Hd σ E.sl
theorem Sl.gr {μ μ' : List Addr} {Hd Hd' : Hp} {σ : L2.St} {sl : List (Option Vl)} (g : Gr μ Hd μ' Hd') (h : Sl K μ Hd σ sl) : Sl K μ' Hd' σ sl :=
  ⟨h.1, fun i r e => by
    obtain ⟨v, h1, h2⟩ := h.2 i r e
    exact ⟨v, h1, Rv.gr g h2⟩⟩
theorem Sl.set {μ : List Addr} {σ : L2.St} {sl : List (Option Vl)} {r : Vl} {v : V} (i : Nat) (h : Sl K μ Hd σ sl) (hv : Rv K μ Hd r v) : Sl K μ Hd (σ.set i (some v)) (sl.set i (some r)) := by
  refine ⟨by rw [List.length_set, List.length_set]; exact h.1, fun j q e => ?_⟩
  rw [List.getElem?_set] at e
  by_cases hij : i = j
  · subst hij
    rw [if_pos rfl] at e
    by_cases hl : i < sl.length
    · rw [if_pos hl] at e
      have e2 : r = q := Option.some.inj (Option.some.inj e)
      subst e2
      exact ⟨v, by rw [List.getElem?_set, if_pos rfl, if_pos (by rw [h.1]; exact hl)], hv⟩
    · rw [if_neg hl] at e
      cases e
  · rw [if_neg hij] at e
    obtain ⟨w, h1, h2⟩ := h.2 j q e
    exact ⟨w, by rw [List.getElem?_set, if_neg hij]; exact h1, h2⟩
/-- a slot forgotten -/
theorem Sl.wipe1 {μ : List Addr} {σ : L2.St} {sl : List (Option Vl)} (i : Nat) (h : Sl K μ Hd σ sl) : Sl K μ Hd (σ.set i none) (sl.set i none) := by
  refine ⟨by rw [List.length_set, List.length_set]; exact h.1, fun j q e => ?_⟩
  rw [List.getElem?_set] at e
  by_cases hij : i = j
  · subst hij
    rw [if_pos rfl] at e
    by_cases hl : i < sl.length
    · rw [if_pos hl] at e
      cases e
    · rw [if_neg hl] at e
      cases e
  · rw [if_neg hij] at e
    obtain ⟨w, h1, h2⟩ := h.2 j q e
    exact ⟨w, by rw [List.getElem?_set, if_neg hij]; exact h1, h2⟩

/-! ### what is seen of a value now; freezing; new things -/
/-- a cell as data -/
def dataC : Ce → Option Dt
  | .lst xs => some (.lst xs)
  | .ins C ns ds => some (.obj C ns ds)
  | .dic ks ds => some (.dic ks ds)
  | _ => none
theorem dataC_ok {c : Ce} {d : Dt} {o : HO} {a : Addr} (e : dataC c = some d) (h : HoAt K Hd c o) (hn : Hd a = none) : c.live = true ∧ Rp K (upd Hd a o) d (.ref a) := by
  have gx : Ex Hd (upd Hd a o) := Ex.new hn
  cases c with
  | dead => cases e
  | pin u => cases e
  | dit ks rs => cases e
  | lst xs =>
    cases e
    obtain ⟨vs, rfl, h⟩ := h
    exact ⟨rfl, a, vs, rfl, upd_same, RpA.ex gx _ _ h⟩
  | ins C ns rs =>
    cases e
    obtain ⟨dx, fs, rfl, hf, h⟩ := h
    exact ⟨rfl, a, dx, fs, rfl, upd_same, hf, RpA.ex gx _ _ h⟩
  | dic ks rs =>
    cases e
    obtain ⟨kvs, rfl, hf, h⟩ := h
    exact ⟨rfl, a, kvs, rfl, upd_same, hf, RpA.ex gx _ _ h⟩
theorem dataC_at {c : Ce} {d : Dt} {o : HO} {a : Addr} (x : Ex Hd H) (e : dataC c = some d) (h : HoAt K Hd c o) (ha : H a = some o) (hn : Hd a = none) : Rp K H d (.ref a) := by
  refine Rp.ex (fun b u hb => ?_) _ _ (dataC_ok e h hn).2
  by_cases q : b = a
  · subst q
    rw [upd_same] at hb
    cases hb
    exact ha
  · rw [upd_ne q] at hb
    exact x b u hb
mutual
def datV : Vl → Option Dt
  | .d d => some d
  | .c _ => none
  | .t rs => (datL rs).map .tup
def datL : List Vl → Option (List Dt)
  | [] => some []
  | r :: rs => match datV r, datL rs with
    | some d, some ds => some (d :: ds)
    | _, _ => none
end
def see (ce : List Ce) : Vl → Option Dt
  | .d d => some d
  | .c k => (ce[k]?).bind dataC
  | .t _ => none
theorem seeC_some {o : Option Ce} {d : Dt} (h : o.bind dataC = some d) : ∃ c, o = some c ∧ dataC c = some d := by
  cases o with
  | none => cases h
  | some c => exact ⟨c, rfl, h⟩
theorem dataC_live {c : Ce} {d : Dt} (h : dataC c = some d) : c.live = true := by
  cases c <;> first | rfl | cases h
theorem see_ok {μ : List Addr} {ce : List Ce} {r : Vl} {v : V} {d : Dt} (w : Wo K μ Hd H ce) (hv : Rv K μ Hd r v) (h : see ce r = some d) : Rp K H d v := by
  cases r with
  | d d' =>
    have e : d' = d := Option.some.inj h
    subst e
    exact Rp.ex w.ex d' v hv
  | c k =>
    obtain ⟨c, e1, e3⟩ := seeC_some h
    obtain ⟨a, e2, rfl⟩ := hv
    obtain ⟨h1, o, h2, h3⟩ := w.at_ k c a e1 e2 (dataC_live e3)
    exact dataC_at w.ex e3 h3 h2 h1
  | t rs => cases h
/-- a list that is seen: its items are data -/
theorem see_lst {μ : List Addr} {ce : List Ce} {r : Vl} {v : V} {ds : List Dt} (w : Wo K μ Hd H ce) (hv : Rv K μ Hd r v) (h : see ce r = some (.lst ds)) : ∃ a vs, v = .ref a ∧ H a = some (.lst vs) ∧ RpA K Hd ds vs := by
  cases r with
  | d d' =>
    have e : d' = .lst ds := Option.some.inj h
    subst e
    obtain ⟨a, vs, h1, h2, h3⟩ := hv
    exact ⟨a, vs, h1, w.ex a _ h2, h3⟩
  | c k =>
    obtain ⟨c, e1, e3⟩ := seeC_some h
    obtain ⟨a, e2, rfl⟩ := hv
    obtain ⟨h1, o, h2, h3⟩ := w.at_ k c a e1 e2 (dataC_live e3)
    cases c with
    | lst xs =>
      cases e3
      obtain ⟨vs, rfl, h3⟩ := h3
      exact ⟨a, vs, rfl, h2, h3⟩
    | _ => cases e3
  | t rs => cases h
theorem see_dat {ce : List Ce} {r : Vl} {d : Dt} (h : see ce r = some d) (hd : (∀ xs, d ≠ .lst xs) ∧ (∀ C ns xs, d ≠ .obj C ns xs) ∧ ∀ ks xs, d ≠ .dic ks xs) : r = .d d := by
  cases r with
  | d d' => rw [Option.some.inj h]
  | c k =>
    obtain ⟨c, e1, e3⟩ := seeC_some h
    cases c with
    | lst xs =>
      cases e3
      exact absurd rfl (hd.1 _)
    | ins C ns rs =>
      cases e3
      exact absurd rfl (hd.2.1 _ _ _)
    | dic ks rs =>
      cases e3
      exact absurd rfl (hd.2.2 _ _)
    | _ => cases e3
  | t rs => cases h
theorem see_flat {ce : List Ce} {r : Vl} {xs : List Dt} (h : see ce r = some (.tup xs)) : r = .d (.tup xs) := see_dat h ⟨nofun, nofun, nofun⟩
theorem see_sq {μ : List Addr} {ce : List Ce} {r : Vl} {v : V} {ds : List Dt} (w : Wo K μ Hd H ce) (hv : Rv K μ Hd r v) (h : see ce r = some (.sq ds)) : ∃ a vs, v = .ref a ∧ SqL K H a vs ∧ RpA K Hd ds vs := by
  have e := see_dat h ⟨nofun, nofun, nofun⟩
  subst e
  obtain ⟨a, vs, h1, h2, h3⟩ := hv
  exact ⟨a, vs, h1, ex_l w.ex h2, h3⟩
theorem see_tup {μ : List Addr} {ce : List Ce} {r : Vl} {v : V} {ds : List Dt} (w : Wo K μ Hd H ce) (hv : Rv K μ Hd r v) (h : see ce r = some (.tup ds)) : ∃ a vs, v = .ref a ∧ SqT K H a vs ∧ RpA K Hd ds vs := by
  have e := see_flat h
  subst e
  obtain ⟨a, vs, h1, h2, h3⟩ := hv
  exact ⟨a, vs, h1, ex_t w.ex h2, h3⟩
/-- new data at a free place -/
theorem Wo.newD {μ : List Addr} {ce : List Ce} {p : Addr} {o : HO} (w : Wo K μ Hd H ce) (hp : H p = none) : Wo K μ (upd Hd p o) (upd H p o) ce := by
  refine ⟨fun a u e => ?_, w.len, fun k c a h1 h2 hl => ?_, w.inj⟩
  · unfold upd at e ⊢
    by_cases h : a = p
    · rw [if_pos h] at e ⊢
      exact e
    · rw [if_neg h] at e ⊢
      exact w.ex a u e
  · obtain ⟨g1, u, g2, g3⟩ := w.at_ k c a h1 h2 hl
    have na : a ≠ p := ne_of_none g2 hp
    exact ⟨by rw [upd_ne na]; exact g1, u, by rw [upd_ne na]; exact g2, HoAt.ex (Ex.new (fresh_back w.ex hp)) g3⟩
theorem Rl.newD {μ : List Addr} {σ : L2.St} {E : En} {p : Addr} {o : HO} (R : Rl K μ Hd H σ E) (hp : H p = none) : Gr μ Hd μ (upd Hd p o) ∧ Rl K μ (upd Hd p o) (upd H p o) σ E := by
  have g : Gr μ Hd μ (upd Hd p o) := ⟨fun _ _ h => h, Ex.new (fresh_back R.wo.ex hp)⟩
  exact ⟨g, R.wo.newD hp, R.sl.gr g⟩
theorem get_append_one {α : Type} {l : List α} {x : α} {k : Nat} {y : α} (h : (l ++ [x])[k]? = some y) : l[k]? = some y ∨ (k = l.length ∧ y = x) := by
  rw [List.getElem?_append] at h
  by_cases hk : k < l.length
  · rw [if_pos hk] at h
    exact .inl h
  · rw [if_neg hk] at h
    by_cases h0 : k - l.length = 0
    · rw [h0] at h
      exact .inr ⟨by omega, (Option.some.inj h).symm⟩
    · rw [List.getElem?_eq_none (by simp; omega)] at h
      cases h
theorem pre_app {μ : List Addr} {p : Addr} : ∀ (k : Nat) (a : Addr), μ[k]? = some a → (μ ++ [p])[k]? = some a := fun k a h => by
  rw [List.getElem?_append_left (List.getElem?_eq_some_iff.mp h).1]
  exact h
/-- a new cell at a free place -/
theorem Wo.newC {μ : List Addr} {ce : List Ce} {p : Addr} {o : HO} {c : Ce} (w : Wo K μ Hd H ce) (hp : H p = none) (hc : HoAt K Hd c o) : Wo K (μ ++ [p]) Hd (upd H p o) (ce ++ [c]) := by
  have hdp : Hd p = none := fresh_back w.ex hp
  have g : Gr μ Hd (μ ++ [p]) Hd := ⟨pre_app, Ex.refl Hd⟩
  have keep : ∀ (k : Nat) (c : Ce) (a : Addr), ce[k]? = some c → μ[k]? = some a → c.live = true → a ≠ p := fun k c a h1 h2 hl => by
    obtain ⟨g1, u, g2, g3⟩ := w.at_ k c a h1 h2 hl
    exact ne_of_none g2 hp
  refine ⟨fun a u e => ?_, by rw [List.length_append, List.length_append, w.len]; rfl, fun k e a h1 h2 hl => ?_, fun j k a e1 e2 h1 h2 h3 h4 l1 l2 => ?_⟩
  · have h := w.ex a u e
    rw [upd_ne (ne_of_none h hp)]
    exact h
  · rcases get_append_one h1 with h1 | ⟨h1, rfl⟩ <;> rcases get_append_one h2 with h2 | ⟨h2, rfl⟩
    · obtain ⟨g1, u, g2, g3⟩ := w.at_ k e a h1 h2 hl
      exact ⟨g1, u, by rw [upd_ne (ne_of_none g2 hp)]; exact g2, g3⟩
    · have := (List.getElem?_eq_some_iff.mp h1).1
      have := w.len
      omega
    · have := (List.getElem?_eq_some_iff.mp h2).1
      have := w.len
      omega
    · exact ⟨hdp, o, upd_same, hc⟩
  · have cs : ∀ {i : Nat} {e : Ce}, (μ ++ [p])[i]? = some a → (ce ++ [c])[i]? = some e → e.live = true → (μ[i]? = some a ∧ ce[i]? = some e ∧ a ≠ p) ∨ (i = ce.length ∧ a = p) := fun {i e} h1 h2 hl => by
      rcases get_append_one h1 with h1 | ⟨h1, q1⟩ <;> rcases get_append_one h2 with h2 | ⟨h2, q2⟩
      · exact .inl ⟨h1, h2, keep i e a h2 h1 hl⟩
      · have := (List.getElem?_eq_some_iff.mp h1).1
        have := w.len
        omega
      · have := (List.getElem?_eq_some_iff.mp h2).1
        have := w.len
        omega
      · exact .inr ⟨h2, q1⟩
    rcases cs h1 h3 l1 with ⟨i1, i2, i3⟩ | ⟨i1, i2⟩ <;> rcases cs h2 h4 l2 with ⟨j1, j2, j3⟩ | ⟨j1, j2⟩
    · exact w.inj j k a e1 e2 i1 j1 i2 j2 l1 l2
    · exact absurd j2 i3
    · exact absurd i2 j3
    · omega
theorem Rl.newX {μ : List Addr} {σ : L2.St} {E : En} {p : Addr} {c : Ce} {o : HO} (R : Rl K μ Hd H σ E) (hp : H p = none) (h : HoAt K Hd c o) :
    Gr μ Hd (μ ++ [p]) Hd ∧ Rl K (μ ++ [p]) Hd (upd H p o) σ ⟨E.sl, E.ce ++ [c]⟩ ∧ Rv K (μ ++ [p]) Hd (.c E.ce.length) (.ref p) := by
  have g : Gr μ Hd (μ ++ [p]) Hd := ⟨pre_app, Ex.refl Hd⟩
  refine ⟨g, ⟨R.wo.newC hp h, R.sl.gr g⟩, p, ?_, rfl⟩
  rw [← R.wo.len]
  simp
theorem Rl.newC {μ : List Addr} {σ : L2.St} {E : En} {p : Addr} {xs : List Dt} {vs : List V} (R : Rl K μ Hd H σ E) (hp : H p = none) (h : RpA K Hd xs vs) :
    Gr μ Hd (μ ++ [p]) Hd ∧ Rl K (μ ++ [p]) Hd (upd H p (.lst vs)) σ ⟨E.sl, E.ce ++ [.lst xs]⟩ ∧ Rv K (μ ++ [p]) Hd (.c E.ce.length) (.ref p) := R.newX hp ⟨vs, rfl, h⟩
/-- a cell changes -/
theorem Wo.set {μ : List Addr} {ce : List Ce} {k : Nat} {a : Addr} {c c' : Ce} {o : HO} (w : Wo K μ Hd H ce) (hk : ce[k]? = some c) (hl : c.live = true) (ha : μ[k]? = some a) (h : HoAt K Hd c' o) : Wo K μ Hd (upd H a o) (ce.set k c') := by
  obtain ⟨g1, u0, g2, g3⟩ := w.at_ k _ a hk ha hl
  refine ⟨fun b u e => ?_, by rw [List.length_set]; exact w.len, fun j e b h1 h2 h3 => ?_, fun i j b e f h1 h2 h3 h4 l1 l2 => ?_⟩
  · have nb : b ≠ a := fun z => by
      subst z
      rw [g1] at e
      cases e
    rw [upd_ne nb]
    exact w.ex b u e
  · rw [List.getElem?_set] at h1
    by_cases hj : k = j
    · subst hj
      rw [if_pos rfl, if_pos (List.getElem?_eq_some_iff.mp hk).1] at h1
      cases h1
      rw [ha] at h2
      cases h2
      exact ⟨g1, o, upd_same, h⟩
    · rw [if_neg hj] at h1
      obtain ⟨q1, u, q2, q3⟩ := w.at_ j e b h1 h2 h3
      have nb : b ≠ a := fun z => hj (by
        subst z
        exact (w.inj j k b _ _ h2 ha h1 hk h3 hl).symm)
      exact ⟨q1, u, by rw [upd_ne nb]; exact q2, q3⟩
  · have live : ∀ (j : Nat) (e : Ce), (ce.set k c')[j]? = some e → e.live = true → ∃ e', ce[j]? = some e' ∧ e'.live = true := fun j e hj he => by
      rw [List.getElem?_set] at hj
      by_cases hkj : k = j
      · subst hkj
        exact ⟨_, hk, hl⟩
      · rw [if_neg hkj] at hj
        exact ⟨e, hj, he⟩
    obtain ⟨c1, d1, d2⟩ := live i e h3 l1
    obtain ⟨c2, d3, d4⟩ := live j f h4 l2
    exact w.inj i j b c1 c2 h1 h2 d1 d3 d2 d4
/-- a cell's list changes -/
theorem Rl.setX {μ : List Addr} {σ : L2.St} {E : En} {k : Nat} {a : Addr} {c c' : Ce} {o : HO} (R : Rl K μ Hd H σ E) (hk : E.ce[k]? = some c) (hl : c.live = true) (ha : μ[k]? = some a) (h : HoAt K Hd c' o) :
    Rl K μ Hd (upd H a o) σ ⟨E.sl, E.ce.set k c'⟩ := ⟨R.wo.set hk hl ha h, R.sl⟩
theorem Rl.setC {μ : List Addr} {σ : L2.St} {E : En} {k : Nat} {a : Addr} {xs ys : List Dt} {vs : List V} (R : Rl K μ Hd H σ E) (hk : E.ce[k]? = some (.lst xs)) (ha : μ[k]? = some a) (h : RpA K Hd ys vs) :
    Rl K μ Hd (upd H a (.lst vs)) σ ⟨E.sl, E.ce.set k (.lst ys)⟩ := R.setX hk rfl ha ⟨vs, rfl, h⟩
/-! a cell becomes data -/
mutual
def frzV (k : Nat) (d : Dt) : Vl → Vl
  | .d e => .d e
  | .c j => if j = k then .d d else .c j
  | .t rs => .t (frzL k d rs)
def frzL (k : Nat) (d : Dt) : List Vl → List Vl
  | [] => []
  | r :: rs => frzV k d r :: frzL k d rs
end
mutual
theorem frzV_ok {μ : List Addr} {Hd Hd' : Hp} {k : Nat} {d : Dt} {a : Addr} (gx : Ex Hd Hd') (ha : μ[k]? = some a) (hp : Rp K Hd' d (.ref a)) : ∀ {r : Vl} {v : V}, Rv K μ Hd r v → Rv K μ Hd' (frzV k d r) v
  | .d e, v, h => Rp.ex gx e v h
  | .c j, v, h => by
    show Rv K μ Hd' (if j = k then .d d else .c j) v
    by_cases hj : j = k
    · rw [if_pos hj]
      subst hj
      obtain ⟨b, h3, rfl⟩ := h
      rw [ha] at h3
      cases h3
      exact hp
    · rw [if_neg hj]
      exact h
  | .t rs, v, ⟨b, vs, h1, h2, h3⟩ => ⟨b, vs, h1, ex_t gx h2, frzL_ok gx ha hp h3⟩
theorem frzL_ok {μ : List Addr} {Hd Hd' : Hp} {k : Nat} {d : Dt} {a : Addr} (gx : Ex Hd Hd') (ha : μ[k]? = some a) (hp : Rp K Hd' d (.ref a)) : ∀ {rs : List Vl} {vs : List V}, RvL K μ Hd rs vs → RvL K μ Hd' (frzL k d rs) vs
  | [], vs, h => h
  | r :: rs, vs, ⟨x, q, h1, h2, h3⟩ => ⟨x, q, h1, frzV_ok gx ha hp h2, frzL_ok gx ha hp h3⟩
end
def frz (k : Nat) (d : Dt) (E : En) : En := ⟨E.sl.map (Option.map (frzV k d)), E.ce.set k .dead⟩
theorem Rl.frz {μ : List Addr} {σ : L2.St} {E : En} {k : Nat} {a : Addr} {c : Ce} {d : Dt} (R : Rl K μ Hd H σ E) (hk : E.ce[k]? = some c) (ha : μ[k]? = some a) (hd : dataC c = some d) :
    ∃ Hd', Gr μ Hd μ Hd' ∧ Rl K μ Hd' H σ (frz k d E) ∧ Rp K Hd' d (.ref a) := by
  have hl0 : c.live = true := by
    cases c <;> first | rfl | cases hd
  obtain ⟨g1, o, g2, g3⟩ := R.wo.at_ k _ a hk ha hl0
  obtain ⟨hl, hp⟩ := dataC_ok hd g3 g1
  have gx : Ex Hd (upd Hd a o) := Ex.new g1
  have g : Gr μ Hd μ (upd Hd a o) := ⟨fun _ _ h => h, gx⟩
  refine ⟨upd Hd a o, g, ⟨⟨fun b u e => ?_, by unfold Hk.frz; rw [List.length_set]; exact R.wo.len, fun j c' b h1 h2 h3 => ?_, fun i j b e f h1 h2 h3 h4 l1 l2 => ?_⟩, ?_⟩, hp⟩
  · by_cases hb : b = a
    · subst hb
      rw [upd_same] at e
      cases e
      exact g2
    · rw [upd_ne hb] at e
      exact R.wo.ex b u e
  · have h1 : (E.ce.set k .dead)[j]? = some c' := h1
    rw [List.getElem?_set] at h1
    by_cases hj : k = j
    · subst hj
      rw [if_pos rfl, if_pos (List.getElem?_eq_some_iff.mp hk).1] at h1
      cases h1
      cases h3
    · rw [if_neg hj] at h1
      obtain ⟨q1, u, q2, q3⟩ := R.wo.at_ j c' b h1 h2 h3
      have nb : b ≠ a := fun z => hj (by
        subst z
        exact (R.wo.inj j k b _ _ h2 ha h1 hk h3 hl).symm)
      exact ⟨by rw [upd_ne nb]; exact q1, u, q2, HoAt.ex gx q3⟩
  · have live : ∀ (j : Nat) (c : Ce), (E.ce.set k .dead)[j]? = some c → c.live = true → E.ce[j]? = some c := fun j c hj hc => by
      rw [List.getElem?_set] at hj
      by_cases hkj : k = j
      · subst hkj
        rw [if_pos rfl, if_pos (List.getElem?_eq_some_iff.mp hk).1] at hj
        cases hj
        cases hc
      · rw [if_neg hkj] at hj
        exact hj
    exact R.wo.inj i j b e f h1 h2 (live i e h3 l1) (live j f h4 l2) l1 l2
  · refine ⟨by show σ.length = (E.sl.map _).length; rw [List.length_map]; exact R.sl.1, fun i r e => ?_⟩
    have e : (E.sl.map (Option.map (frzV k d)))[i]? = some (some r) := e
    rw [List.getElem?_map] at e
    cases q : E.sl[i]? with
    | none =>
      rw [q] at e
      cases e
    | some o' =>
      rw [q] at e
      cases o' with
      | none => cases e
      | some r0 =>
        have er : frzV k d r0 = r := Option.some.inj (Option.some.inj e)
        obtain ⟨v, h1, h2⟩ := R.sl.2 i r0 q
        exact ⟨v, h1, er ▸ frzV_ok gx ha hp h2⟩
end
end Hk
/-! Hk2: the judgements, and the rules of expressions, tests, statements, loops. -/
namespace Hk
open PySem PySem.Spec PyProof.Rows L2 Evl

/-- what a piece does to the state: nothing where it fails -/
abbrev M (α : Type) := En → Option (α × En)
def bindM {α β : Type} (m : M α) (f : α → M β) : M β := fun E => match m E with
  | some (a, E') => f a E'
  | none => none
def retM {α : Type} (a : α) : M α := fun E => some (a, E)
def failM {α : Type} : M α := fun _ => none
theorem bindM_some {α β : Type} {m : M α} {f : α → M β} {E E2 : En} {b : β} (h : bindM m f E = some (b, E2)) : ∃ a E1, m E = some (a, E1) ∧ f a E1 = some (b, E2) := by
  unfold bindM at h
  split at h
  · rename_i a E' e
    exact ⟨a, E', e, h⟩
  · cases h
inductive Rs where
  | nx (E : En) | rt (r : Vl) (E : En) | bk (E : En) | ct (E : En)

section
variable (K : PySem.W.Frag)
def EM (te : TE) (m : M Vl) : Prop := ∀ {μ : List Addr} {Hd H : Hp} {σ : L2.St} {E : En} {r : Vl} {E' : En}, Rl K μ Hd H σ E → m E = some (r, E') → ∀ Q : VK,
  (∀ μ' Hd' H' v, Gr μ Hd μ' Hd' → Rl K μ' Hd' H' σ E' → Rv K μ' Hd' r v → Q v H') → te σ H Q
def TM (tt : TT) (m : M Bool) : Prop := ∀ {μ : List Addr} {Hd H : Hp} {σ : L2.St} {E : En} {b : Bool} {E' : En}, Rl K μ Hd H σ E → m E = some (b, E') → ∀ Q : Bool → Hp → Prop,
  (∀ μ' Hd' H', Gr μ Hd μ' Hd' → Rl K μ' Hd' H' σ E' → Q b H') → tt σ H Q
def AM (ta : TA) (m : M (List Vl)) : Prop := ∀ {μ : List Addr} {Hd H : Hp} {σ : L2.St} {E : En} {rs : List Vl} {E' : En}, Rl K μ Hd H σ E → m E = some (rs, E') → ∀ Q : List V → Hp → Prop,
  (∀ μ' Hd' H' vs, Gr μ Hd μ' Hd' → Rl K μ' Hd' H' σ E' → RvA K μ' Hd' rs vs → Q vs H') → ta σ H Q
/-- an operation on values -/
def OM (r : R2) (f : Vl → Vl → M Vl) : Prop := ∀ {μ : List Addr} {Hd H : Hp} {σ : L2.St} {E : En} {x y : Vl} {vx vy : V} {z : Vl} {E' : En}, Rl K μ Hd H σ E → Rv K μ Hd x vx → Rv K μ Hd y vy → f x y E = some (z, E') → ∀ Q : VK,
  (∀ μ' Hd' H' v, Gr μ Hd μ' Hd' → Rl K μ' Hd' H' σ E' → Rv K μ' Hd' z v → Q v H') → r vx vy H Q
def UM (r : V → Hp → VK → Prop) (f : Vl → M Vl) : Prop := ∀ {μ : List Addr} {Hd H : Hp} {σ : L2.St} {E : En} {x : Vl} {vx : V} {z : Vl} {E' : En}, Rl K μ Hd H σ E → Rv K μ Hd x vx → f x E = some (z, E') → ∀ Q : VK,
  (∀ μ' Hd' H' v, Gr μ Hd μ' Hd' → Rl K μ' Hd' H' σ E' → Rv K μ' Hd' z v → Q v H') → r vx H Q
def CM (r : List V → Hp → VK → Prop) (f : List Vl → M Vl) : Prop := ∀ {μ : List Addr} {Hd H : Hp} {σ : L2.St} {E : En} {xs : List Vl} {vs : List V} {z : Vl} {E' : En}, Rl K μ Hd H σ E → RvA K μ Hd xs vs → f xs E = some (z, E') → ∀ Q : VK,
  (∀ μ' Hd' H' v, Gr μ Hd μ' Hd' → Rl K μ' Hd' H' σ E' → Rv K μ' Hd' z v → Q v H') → r vs H Q
/-- a method of a built-in type -/
def MM (T : String) (r : V → List V → Hp → VK → Prop) (f : Vl → List Vl → M Vl) : Prop := ∀ {μ : List Addr} {Hd H : Hp} {σ : L2.St} {E : En} {x : Vl} {vx : V} {xs : List Vl} {vs : List V} {z : Vl} {E' : En}, Rl K μ Hd H σ E → Rv K μ Hd x vx → RvA K μ Hd xs vs → f x xs E = some (z, E') → ∀ Q : VK,
  (∀ μ' Hd' H' v, Gr μ Hd μ' Hd' → Rl K μ' Hd' H' σ E' → Rv K μ' Hd' z v → Q v H') → r vx vs H Q
def Dn (μ : List Addr) (Hd : Hp) (D : Ends) : Rs → Prop
  | .nx E' => ∀ μ' Hd' H' σ', Gr μ Hd μ' Hd' → Rl K μ' Hd' H' σ' E' → D.nx σ' H'
  | .rt r E' => ∀ μ' Hd' H' σ' v, Gr μ Hd μ' Hd' → Rl K μ' Hd' H' σ' E' → Rv K μ' Hd' r v → D.rt v H'
  | .bk E' => ∀ μ' Hd' H' σ', Gr μ Hd μ' Hd' → Rl K μ' Hd' H' σ' E' → D.bk σ' H'
  | .ct E' => ∀ μ' Hd' H' σ', Gr μ Hd μ' Hd' → Rl K μ' Hd' H' σ' E' → D.ct σ' H'
def SM (ts : TS) (m : En → Option Rs) : Prop := ∀ {μ : List Addr} {Hd H : Hp} {σ : L2.St} {E : En} {R : Rs}, Rl K μ Hd H σ E → m E = some R → ∀ D : Ends, Dn K μ Hd D R → ts D σ H
def GM (g : TG) (f : Vl → En → Option En) : Prop := ∀ {μ : List Addr} {Hd H : Hp} {σ : L2.St} {E E' : En} {r : Vl} {v : V}, Rl K μ Hd H σ E → Rv K μ Hd r v → f r E = some E' → ∀ Q : L2.St → Hp → Prop,
  (∀ μ' Hd' H' σ', Gr μ Hd μ' Hd' → Rl K μ' Hd' H' σ' E' → Q σ' H') → g v σ H Q
end
section
variable {K : PySem.W.Frag} {μ μ' : List Addr} {Hd Hd' H : Hp}
theorem Dn.gr {D : Ends} (g : Gr μ Hd μ' Hd') : ∀ {R : Rs}, Dn K μ Hd D R → Dn K μ' Hd' D R
  | .nx _, h => fun m1 h1 H1 s1 g1 => h m1 h1 H1 s1 (g.trans g1)
  | .rt _ _, h => fun m1 h1 H1 s1 v g1 => h m1 h1 H1 s1 v (g.trans g1)
  | .bk _, h => fun m1 h1 H1 s1 g1 => h m1 h1 H1 s1 (g.trans g1)
  | .ct _, h => fun m1 h1 H1 s1 g1 => h m1 h1 H1 s1 (g.trans g1)
end

/-- a piece of syntax, its reading, what it does -/
structure Ex_ (X : Cx) (e : Expr) (te : TE) (m : M Vl) : Prop where
  pe : PE X e te
  em : EM X.K te m
structure Tx (X : Cx) (e : Expr) (tt : TT) (m : M Bool) : Prop where
  pt : PT X e tt
  tm : TM X.K tt m
structure Wx (X : Cx) (e : Expr) (tt : TT) (m : M Bool) : Prop where
  pw : PW X e tt
  tm : TM X.K tt m
structure Ax (X : Cx) (es : List Expr) (ta : TA) (m : M (List Vl)) : Prop where
  pa : PA X es ta
  am : AM X.K ta m
structure Sx (X : Cx) (st : Stmt) (ts : TS) (m : En → Option Rs) : Prop where
  ps : PS X st ts
  sm : SM X.K ts m
structure Bx (X : Cx) (st : List Stmt) (ts : TS) (m : En → Option Rs) : Prop where
  ps : PSs X st ts
  sm : SM X.K ts m
structure Gx (X : Cx) (tg : Expr) (g : TG) (f : Vl → En → Option En) : Prop where
  pg : PG X tg g
  gm : GM X.K g f

section
variable {X : Cx} {a b c e : Expr} {ta tb tc te : TE} {ma mb mc m : M Vl} {pos : Pos}

/-! ### names, constants -/
def vM (i : Nat) : M Vl := fun E => match E.sl[i]? with
  | some (some r) => some (r, E)
  | _ => none
theorem em_var {K : PySem.W.Frag} (i : Nat) : EM K (tVar i) (vM i) := fun {μ Hd H σ E r E'} R h Q q => by
  unfold vM at h
  split at h
  · rename_i r0 e
    cases h
    obtain ⟨v, h1, h2⟩ := R.sl.2 i _ e
    exact ⟨v, h1, q μ Hd H v (Gr.refl μ Hd) R h2⟩
  · cases h
theorem xv (i : Nat) {x : Str} (hN : X.N[i]? = some x := by rfl) (hv : Vis X.env.scope x := by first | exact Or.inl rfl | exact Or.inr (Or.inl rfl) | exact Or.inr (Or.inr rfl)) (hd : (x == ("__debug__" : Str)) = false := by decide)
    (hcd : (x == ("__classdict__" : Str)) = false := by decide) : Ex_ X (.Name x pos) (tVar i) (vM i) := ⟨pe_var hN hv hd hcd, em_var i⟩
theorem em_c {K : PySem.W.Frag} {v : V} {d : Dt} (h : ∀ Hd, Rp K Hd d v) : EM K (tC v) (retM (.d d)) := fun {μ Hd H σ E r E'} R e Q q => by
  cases e
  exact q μ Hd H v (Gr.refl μ Hd) R (h Hd)
theorem xint {i : Int} {j : Nat} : Ex_ X (.Constant (.int i) j pos) (tC (.int i)) (retM (.d (.int i))) := ⟨pe_int, em_c (d := .int i) fun _ => (rfl : V.int i = .int i)⟩
theorem xbl {b : Bool} {j : Nat} : Ex_ X (.Constant (.bool b) j pos) (tC (.bl b)) (retM (.d (.bl b))) := ⟨pe_bl, em_c (d := .bl b) fun _ => (rfl : V.bl b = .bl b)⟩
theorem xnon {j : Nat} : Ex_ X (.Constant .none j pos) (tC .non) (retM (.d .non)) := ⟨pe_non, em_c (d := .non) fun _ => (rfl : V.non = .non)⟩
theorem xstr {x : Str} {j : Nat} : Ex_ X (.Constant (.str x) j pos) (tC (.str x)) (retM (.d (.str x))) := ⟨pe_str, em_c (d := .str x) fun _ => (rfl : V.str x = .str x)⟩

/-! ### operations -/
theorem em_op {K : PySem.W.Frag} {r : R2} {f : Vl → Vl → M Vl} (hf : OM K r f) (ha : EM K ta ma) (hb : EM K tb mb) : EM K (tOp r ta tb) (bindM ma fun x => bindM mb (f x)) := fun {μ Hd H σ E z E'} R h Q q => by
  obtain ⟨x, E1, h1, h⟩ := bindM_some h
  obtain ⟨y, E2, h2, h3⟩ := bindM_some h
  refine ha R h1 _ fun μ1 Hd1 H1 vx g1 R1 r1 => ?_
  refine hb R1 h2 _ fun μ2 Hd2 H2 vy g2 R2 r2 => ?_
  exact hf R2 (Rv.gr g2 r1) r2 h3 Q fun μ3 Hd3 H3 v g3 R3 r3 => q μ3 Hd3 H3 v ((g1.trans g2).trans g3) R3 r3
theorem xop {op : Operator} {r : R2} {f : Vl → Vl → M Vl} (ho : OpR X (binaryOp op) r) (hf : OM X.K r f) (ha : Ex_ X a ta ma) (hb : Ex_ X b tb mb) :
    Ex_ X (.BinOp a op b pos) (tOp r ta tb) (bindM ma fun x => bindM mb (f x)) := ⟨pe_op ho ha.pe hb.pe, em_op hf ha.em hb.em⟩
theorem xcmp {op : CmpOp} {r : R2} {f : Vl → Vl → M Vl} (ho : OpR X (compareOp op) r) (hf : OM X.K r f) (ha : Ex_ X a ta ma) (hb : Ex_ X b tb mb) (hm : behindInMarks op b = false) :
    Ex_ X (.Compare a [op] [b] pos) (tOp r ta tb) (bindM ma fun x => bindM mb (f x)) := ⟨pe_cmpR ho ha.pe hb.pe hm, em_op hf ha.em hb.em⟩
/-- a value that is a truth -/
def boolM : Vl → M Bool
  | .d (.bl b) => retM b
  | _ => failM
theorem boolM_some {r : Vl} {E E' : En} {k : Bool} (h : boolM r E = some (k, E')) : r = .d (.bl k) ∧ E' = E := by
  unfold boolM at h
  split at h
  · cases h
    exact ⟨rfl, rfl⟩
  · cases h
theorem tm_test {K : PySem.W.Frag} {te : TE} {m : M Vl} (h : EM K te m) : TM K (tTest te) (bindM m boolM) := fun {μ Hd H σ E b E'} R e Q q => by
  obtain ⟨r, E1, h1, h2⟩ := bindM_some e
  obtain ⟨rfl, rfl⟩ := boolM_some h2
  exact h R h1 _ fun μ1 Hd1 H1 v g1 R1 r1 => ⟨b, r1, q μ1 Hd1 H1 g1 R1⟩
theorem tm_B {K : PySem.W.Frag} {te : TE} {m : M Vl} (h : EM K te m) : TM K (tB te) (bindM m boolM) := tm_test h
theorem tcmp {op : CmpOp} {r : R2} {f : Vl → Vl → M Vl} (ho : OpR X (compareOp op) r) (hf : OM X.K r f) (ha : Ex_ X a ta ma) (hb : Ex_ X b tb mb) (hm : behindInMarks op b = false) :
    Tx X (.Compare a [op] [b] pos) (tTest (tOp r ta tb)) (bindM (bindM ma fun x => bindM mb (f x)) boolM) := ⟨pt_cmpR ho ha.pe hb.pe hm, tm_test (em_op hf ha.em hb.em)⟩
theorem tval (ha : Ex_ X a ta ma) (he : ∀ whole, isTrue a X.env whole = (do let v ← whole; standAt a.pos; holding [v] (truthy v)) := by intro _; rfl) : Tx X a (tB ta) (bindM ma boolM) := ⟨pt_val ha.pe he, tm_B ha.em⟩
/-- a value's truth -/
def truD : Dt → Option Bool
  | .non => some false
  | .bl b => some b
  | .int i => some (i != 0)
  | .str s => if s.length ≤ sizeLine then some ((s.length : Int) != 0) else none
  | .lst xs => some (!xs.isEmpty)
  | .tup xs => some (!xs.isEmpty)
  | _ => none
def truM (r : Vl) : M Bool := fun E => match see E.ce r with
  | some d => (truD d).map fun b => (b, E)
  | none => none
theorem RpA.emp {K : PySem.W.Frag} {H : Hp} {ds : List Dt} {vs : List V} (h : RpA K H ds vs) : vs.isEmpty = ds.isEmpty := by
  have e := h.len
  cases ds <;> cases vs <;> first | rfl | (simp at e)
theorem tru_of {K : PySem.W.Frag} {H : Hp} {d : Dt} {v : V} {b : Bool} (hr : Rp K H d v) (h : truD d = some b) : TruV K v H b := by
  unfold truD at h
  split at h
  · cases h
    cases (show v = .non from hr)
    exact (rfl : false = false)
  · cases h
    cases (show v = .bl _ from hr)
    exact (rfl : b = b)
  · cases h
    cases (show v = .int _ from hr)
    exact (rfl : _ = _)
  · cases (show v = .str _ from hr)
    split at h
    · rename_i hz
      cases h
      exact ⟨hz, rfl⟩
    · cases h
  · cases h
    obtain ⟨a, xs, rfl, h2, h3⟩ := hr
    exact .inl ⟨xs, sq_of h2, by rw [h3.emp]⟩
  · cases h
    obtain ⟨a, xs, rfl, h2, h3⟩ := hr
    exact .inr (.inl ⟨xs, h2, by rw [h3.emp]⟩)
  · cases h
theorem ttru (ha : Ex_ X a ta ma) (he : ∀ whole, isTrue a X.env whole = (do let v ← whole; standAt a.pos; holding [v] (truthy v)) := by intro _; rfl) :
    Tx X a (fun σ H Q => ta σ H fun x H' => ∃ k, TruV X.K x H' k ∧ Q k H') (bindM ma truM) := ⟨pt_truth ha.pe he, fun {μ Hd H σ E b E'} R e Q q => by
  obtain ⟨r, E1, h1, h2⟩ := bindM_some e
  unfold truM at h2
  split at h2
  · rename_i d hd
    cases ht : truD d with
    | none =>
      rw [ht] at h2
      cases h2
    | some k =>
      rw [ht] at h2
      cases h2
      exact ha.em R h1 _ fun μ1 Hd1 H1 v g1 R1 r1 => ⟨b, tru_of (see_ok R1.wo r1 hd) ht, q μ1 Hd1 H1 g1 R1⟩
  · cases h2⟩
/-! ### and, or, not, a chain, a choice -/
variable {tt uu : TT} {mt mu : M Bool} {rest : List Expr}
def andM (m n : M Bool) : M Bool := bindM m fun b => if b = true then n else retM false
def orM (m n : M Bool) : M Bool := bindM m fun b => if b = true then retM true else n
def notM (m : M Bool) : M Bool := bindM m fun b => retM (!b)
theorem tm_and {K : PySem.W.Frag} (h1 : TM K tt mt) (h2 : TM K uu mu) : TM K (tAnd tt uu) (andM mt mu) := fun {μ Hd H σ E b E'} R e Q q => by
  obtain ⟨k, E1, e1, e2⟩ := bindM_some e
  refine h1 R e1 _ fun μ1 Hd1 H1 g1 R1 => ?_
  cases k with
  | true => exact h2 R1 e2 Q fun μ2 Hd2 H2 g2 R2 => q μ2 Hd2 H2 (g1.trans g2) R2
  | false =>
    cases e2
    exact q μ1 Hd1 H1 g1 R1
theorem tm_or {K : PySem.W.Frag} (h1 : TM K tt mt) (h2 : TM K uu mu) : TM K (tOr tt uu) (orM mt mu) := fun {μ Hd H σ E b E'} R e Q q => by
  obtain ⟨k, E1, e1, e2⟩ := bindM_some e
  refine h1 R e1 _ fun μ1 Hd1 H1 g1 R1 => ?_
  cases k with
  | false => exact h2 R1 e2 Q fun μ2 Hd2 H2 g2 R2 => q μ2 Hd2 H2 (g1.trans g2) R2
  | true =>
    cases e2
    exact q μ1 Hd1 H1 g1 R1
theorem tm_not {K : PySem.W.Frag} (h1 : TM K tt mt) : TM K (tNot tt) (notM mt) := fun {μ Hd H σ E b E'} R e Q q => by
  obtain ⟨k, E1, e1, e2⟩ := bindM_some e
  cases e2
  exact h1 R e1 _ fun μ1 Hd1 H1 g1 R1 => q μ1 Hd1 H1 g1 R1
theorem wand1 (h : Tx X a tt mt) : Wx X (.BoolOp .And [a] pos) tt mt := ⟨pw_and1 h.pt, h.tm⟩
theorem wor1 (h : Tx X a tt mt) : Wx X (.BoolOp .Or [a] pos) tt mt := ⟨pw_or1 h.pt, h.tm⟩
theorem wand (h : Tx X a tt mt) (hr : Wx X (.BoolOp .And (b :: rest) pos) uu mu) : Wx X (.BoolOp .And (a :: b :: rest) pos) (tAnd tt uu) (andM mt mu) := ⟨pw_and h.pt hr.pw, tm_and h.tm hr.tm⟩
theorem wor (h : Tx X a tt mt) (hr : Wx X (.BoolOp .Or (b :: rest) pos) uu mu) : Wx X (.BoolOp .Or (a :: b :: rest) pos) (tOr tt uu) (orM mt mu) := ⟨pw_or h.pt hr.pw, tm_or h.tm hr.tm⟩
theorem tbool (h : Wx X e tt mt) : Tx X e tt mt := ⟨h.pw.pt, h.tm⟩
theorem tnot (h : Tx X a tt mt) : Tx X (.UnaryOp .Not a pos) (tNot tt) (notM mt) := ⟨pt_not h.pt, tm_not h.tm⟩
/-- as values that are truths -/
def blM (b : Bool) : M Vl := retM (.d (.bl b))
def andV (m n : M Vl) : M Vl := bindM (bindM m boolM) fun b => if b = true then n else blM false
def orV (m n : M Vl) : M Vl := bindM (bindM m boolM) fun b => if b = true then blM true else n
def notV (m : M Vl) : M Vl := bindM (bindM m boolM) fun b => blM (!b)
theorem em_bool {K : PySem.W.Frag} {te : TE} {m : M Vl} (h : EM K te m) {μ : List Addr} {Hd H : Hp} {σ : L2.St} {E E' : En} {k : Bool} (R : Rl K μ Hd H σ E) (e : bindM m boolM E = some (k, E')) {Q : VK}
    (q : ∀ μ' Hd' H', Gr μ Hd μ' Hd' → Rl K μ' Hd' H' σ E' → Q (.bl k) H') : te σ H Q := by
  obtain ⟨r, E1, e1, e2⟩ := bindM_some e
  obtain ⟨rfl, rfl⟩ := boolM_some e2
  exact h R e1 _ fun μ1 Hd1 H1 v g1 R1 r1 => by
    cases (show v = .bl k from r1)
    exact q μ1 Hd1 H1 g1 R1
theorem xand (ha : Ex_ X a ta ma) (hb : Ex_ X (.BoolOp .And (b :: rest) pos) tb mb) : Ex_ X (.BoolOp .And (a :: b :: rest) pos) (tAndV ta tb) (andV ma mb) := ⟨pe_and ha.pe hb.pe, fun {μ Hd H σ E r E'} R e Q q => by
  obtain ⟨k, E1, e1, e2⟩ := bindM_some e
  refine em_bool ha.em R e1 fun μ1 Hd1 H1 g1 R1 => ⟨k, rfl, ?_⟩
  cases k with
  | true => exact hb.em R1 e2 Q fun μ2 Hd2 H2 v g2 R2 => q μ2 Hd2 H2 v (g1.trans g2) R2
  | false =>
    cases e2
    exact q μ1 Hd1 H1 _ g1 R1 rfl⟩
theorem xor_ (ha : Ex_ X a ta ma) (hb : Ex_ X (.BoolOp .Or (b :: rest) pos) tb mb) : Ex_ X (.BoolOp .Or (a :: b :: rest) pos) (tOrV ta tb) (orV ma mb) := ⟨pe_or ha.pe hb.pe, fun {μ Hd H σ E r E'} R e Q q => by
  obtain ⟨k, E1, e1, e2⟩ := bindM_some e
  refine em_bool ha.em R e1 fun μ1 Hd1 H1 g1 R1 => ⟨k, rfl, ?_⟩
  cases k with
  | false => exact hb.em R1 e2 Q fun μ2 Hd2 H2 v g2 R2 => q μ2 Hd2 H2 v (g1.trans g2) R2
  | true =>
    cases e2
    exact q μ1 Hd1 H1 _ g1 R1 rfl⟩
theorem xone {op : BoolOp} (ha : Ex_ X a ta ma) : Ex_ X (.BoolOp op [a] pos) ta ma := ⟨pe_one ha.pe, ha.em⟩
theorem xnot (ha : Ex_ X a ta ma) : Ex_ X (.UnaryOp .Not a pos) (tNotV ta) (notV ma) := ⟨pe_not ha.pe, fun {μ Hd H σ E r E'} R e Q q => by
  obtain ⟨k, E1, e1, e2⟩ := bindM_some e
  cases e2
  exact em_bool ha.em R e1 fun μ1 Hd1 H1 g1 R1 => ⟨k, rfl, q μ1 Hd1 H1 _ g1 R1 rfl⟩⟩
def ifM {α : Type} (t : M Bool) (m n : M α) : M α := bindM t fun b => if b = true then m else n
theorem xif (hc : Tx X c tt mt) (ha : Ex_ X a ta ma) (hb : Ex_ X b tb mb) : Ex_ X (.IfExp c a b pos) (tIf tt ta tb) (ifM mt ma mb) := ⟨pe_ifExp hc.pt ha.pe hb.pe, fun {μ Hd H σ E r E'} R e Q q => by
  obtain ⟨k, E1, e1, e2⟩ := bindM_some e
  refine hc.tm R e1 _ fun μ1 Hd1 H1 g1 R1 => ?_
  cases k with
  | true => exact ha.em R1 e2 Q fun μ2 Hd2 H2 v g2 R2 => q μ2 Hd2 H2 v (g1.trans g2) R2
  | false => exact hb.em R1 e2 Q fun μ2 Hd2 H2 v g2 R2 => q μ2 Hd2 H2 v (g1.trans g2) R2⟩
def chainV (f g : Vl → Vl → M Vl) (ma mb mc : M Vl) : M Vl := bindM ma fun x => bindM mb fun y => bindM (bindM (f x y) boolM) fun k => if k = true then bindM mc (g y) else blM false
theorem em_chain {K : PySem.W.Frag} {r r' : R2} {f g : Vl → Vl → M Vl} (hf : OM K r f) (hg : OM K r' g) (hgb : ∀ x y E z E', g x y E = some (z, E') → ∃ k, z = .d (.bl k)) (ha : EM K ta ma) (hb : EM K tb mb) (hc : EM K tc mc) : EM K (tChain r r' ta tb tc) (chainV f g ma mb mc) := fun {μ Hd H σ E z E'} R e Q q => by
  obtain ⟨x, E1, e1, e⟩ := bindM_some e
  obtain ⟨y, E2, e2, e⟩ := bindM_some e
  obtain ⟨k, E3, e3, e⟩ := bindM_some e
  obtain ⟨w, E4, e4, e5⟩ := bindM_some e3
  obtain ⟨rfl, rfl⟩ := boolM_some e5
  refine ha R e1 _ fun μ1 Hd1 H1 vx g1 R1 r1 => ?_
  refine hb R1 e2 _ fun μ2 Hd2 H2 vy g2 R2 r2 => ?_
  refine hf R2 (Rv.gr g2 r1) r2 e4 _ fun μ3 Hd3 H3 vz g3 R3 r3 => ?_
  refine ⟨k, r3, ?_⟩
  cases k with
  | true =>
    obtain ⟨u, E5, e6, e7⟩ := bindM_some e
    show tc σ H3 _
    refine hc R3 e6 _ fun μ4 Hd4 H4 vu g4 R4 r4 => ?_
    exact hg R4 (Rv.gr g4 (Rv.gr g3 r2)) r4 e7 _ fun μ5 Hd5 H5 v g5 R5 r5 => q μ5 Hd5 H5 v ((((g1.trans g2).trans g3).trans g4).trans g5) R5 r5
  | false =>
    cases e
    exact q μ3 Hd3 H3 _ ((g1.trans g2).trans g3) R3 rfl
theorem tchain {op op' : CmpOp} {r r' : R2} {f g : Vl → Vl → M Vl} (ho : OpR X (compareOp op) r) (ho' : OpR X (compareOp op') r') (hf : OM X.K r f) (hg : OM X.K r' g) (hgb : ∀ x y E z E', g x y E = some (z, E') → ∃ k, z = .d (.bl k)) (ha : Ex_ X a ta ma) (hb : Ex_ X b tb mb) (hc : Ex_ X c tc mc)
    (hm : lastMarks [op, op'] [b, c] = false := by with_unfolding_all rfl) : Tx X (.Compare a [op, op'] [b, c] pos) (tTest (tChain r r' ta tb tc)) (bindM (chainV f g ma mb mc) boolM) := ⟨pt_chain ho ho' ha.pe hb.pe hc.pe hm, tm_test (em_chain hf hg hgb ha.em hb.em hc.em)⟩

/-! ### argument lists, displays -/
variable {es : List Expr} {tes : TA} {mes : M (List Vl)}
def consM (m : M Vl) (ms : M (List Vl)) : M (List Vl) := bindM m fun x => bindM ms fun xs => retM (x :: xs)
theorem anil : Ax X [] tNil (retM []) := ⟨pa_nil, fun {μ Hd H σ E r E'} R e Q q => by
  cases e
  exact q μ Hd H [] (Gr.refl μ Hd) R .nil⟩
theorem acons (ha : Ex_ X e te m) (hr : Ax X es tes mes) (hs : starEach (e :: es) X.env = (false, eval e X.env) :: starEach es X.env := by rfl) : Ax X (e :: es) (tCons te tes) (consM m mes) := ⟨pa_cons ha.pe hr.pa hs, fun {μ Hd H σ E r E'} R e Q q => by
  obtain ⟨x, E1, e1, e⟩ := bindM_some e
  obtain ⟨xs, E2, e2, e⟩ := bindM_some e
  cases e
  refine ha.em R e1 _ fun μ1 Hd1 H1 v g1 R1 r1 => ?_
  exact hr.am R1 e2 _ fun μ2 Hd2 H2 vs g2 R2 r2 => q μ2 Hd2 H2 _ (g1.trans g2) R2 (.cons (Rv.gr g2 r1) r2)⟩
/-- a value as data: a cell's list is data from now on -/
def fzM : Vl → M Dt
  | .d d => retM d
  | .c k => fun E => match (E.ce[k]?).bind dataC with
    | some d => some (d, frz k d E)
    | none => none
  | .t _ => failM
def fzA : List Vl → M (List Dt)
  | [] => retM []
  | r :: rs => bindM (fzM r) fun d => bindM (fzA rs) fun ds => retM (d :: ds)
theorem fzM_ok {K : PySem.W.Frag} {μ : List Addr} {Hd H : Hp} {σ : L2.St} {E E' : En} {r : Vl} {v : V} {d : Dt} (R : Rl K μ Hd H σ E) (hv : Rv K μ Hd r v) (h : fzM r E = some (d, E')) : ∃ Hd', Gr μ Hd μ Hd' ∧ Rl K μ Hd' H σ E' ∧ Rp K Hd' d v := by
  cases r with
  | d d' =>
    cases h
    exact ⟨Hd, Gr.refl μ Hd, R, hv⟩
  | c k =>
    have h : (match (E.ce[k]?).bind dataC with
    | some d => some (d, frz k d E)
    | none => none) = some (d, E') := h
    cases q : E.ce[k]? with
    | none =>
      rw [q] at h
      cases h
    | some c =>
      rw [q] at h
      have h : (match dataC c with
        | some d => some (d, frz k d E)
        | none => none) = some (d, E') := h
      cases q2 : dataC c with
      | none =>
        rw [q2] at h
        cases h
      | some d2 =>
        rw [q2] at h
        cases h
        obtain ⟨a, h1, rfl⟩ := hv
        exact R.frz q h1 q2
  | t rs => cases h
theorem fzA_ok {K : PySem.W.Frag} {μ : List Addr} {H : Hp} {σ : L2.St} : ∀ {rs : List Vl} {vs : List V} {ds : List Dt} {Hd : Hp} {E E' : En}, Rl K μ Hd H σ E → RvA K μ Hd rs vs → fzA rs E = some (ds, E') → ∃ Hd', Gr μ Hd μ Hd' ∧ Rl K μ Hd' H σ E' ∧ RpA K Hd' ds vs
  | [], _, _, Hd, E, E', R, .nil, h => by
    cases h
    exact ⟨Hd, Gr.refl μ Hd, R, rfl⟩
  | r :: rs, _, _, Hd, E, E', R, .cons h1 h2, h => by
    obtain ⟨d, E1, e1, h⟩ := bindM_some h
    obtain ⟨ds, E2, e2, h⟩ := bindM_some h
    cases h
    obtain ⟨H1, g1, R1, p1⟩ := fzM_ok R h1 e1
    obtain ⟨H2, g2, R2, p2⟩ := fzA_ok R1 (RvA.gr g1 h2) e2
    exact ⟨H2, g1.trans g2, R2, _, _, rfl, Rp.ex g2.ex _ _ p1, p2⟩
/-- a new list, a new tuple -/
def newL (xs : List Dt) : M Vl := fun E => some (.c E.ce.length, ⟨E.sl, E.ce ++ [.lst xs]⟩)
def tupM (m : M (List Vl)) : M Vl := bindM m fun rs => if rs.length ≤ 100000 then bindM (fzA rs) fun ds => retM (.d (.tup ds)) else failM
def lstM (m : M (List Vl)) : M Vl := bindM m fun rs => if rs.length ≤ 100000 then bindM (fzA rs) newL else failM
theorem newL_ok {K : PySem.W.Frag} {μ : List Addr} {Hd H : Hp} {σ : L2.St} {E E' : En} {xs : List Dt} {vs : List V} {z : Vl} {p : Addr} (R : Rl K μ Hd H σ E) (h : RpA K Hd xs vs) (e : newL xs E = some (z, E')) (hp : H p = none) :
    Gr μ Hd (μ ++ [p]) Hd ∧ Rl K (μ ++ [p]) Hd (upd H p (.lst vs)) σ E' ∧ Rv K (μ ++ [p]) Hd z (.ref p) := by
  cases e
  exact R.newC hp h
theorem tup_ok {K : PySem.W.Frag} {μ : List Addr} {Hd H : Hp} {σ : L2.St} {E : En} {ds : List Dt} {vs : List V} {p : Addr} (R : Rl K μ Hd H σ E) (h : RpA K Hd ds vs) (hp : H p = none) :
    Gr μ Hd μ (upd Hd p (.tup vs)) ∧ Rl K μ (upd Hd p (.tup vs)) (upd H p (.tup vs)) σ E ∧ Rp K (upd Hd p (.tup vs)) (.tup ds) (.ref p) := by
  obtain ⟨g, R'⟩ := R.newD (o := .tup vs) hp
  exact ⟨g, R', p, vs, rfl, st_of upd_same, RpA.ex g.ex _ _ h⟩
theorem xtup {k : _} (h : Ax X es tes mes) : Ex_ X (.Tuple es k pos) (tTup tes) (tupM mes) := ⟨pe_tup h.pa, fun {μ Hd H σ E r E'} R e Q q => by
  obtain ⟨rs, E1, e1, e⟩ := bindM_some e
  split at e
  · rename_i hz
    obtain ⟨ds, E2, e2, e⟩ := bindM_some e
    cases e
    refine h.am R e1 _ fun μ1 Hd1 H1 vs g1 R1 r1 => ?_
    obtain ⟨Hd2, g2, R2, r2⟩ := fzA_ok R1 r1 e2
    refine ⟨by rw [r1.len]; exact sz_of hz, fun p hp => ?_⟩
    obtain ⟨g3, R3, r3⟩ := tup_ok R2 r2 hp
    exact q _ _ _ _ ((g1.trans g2).trans g3) R3 r3
  · cases e⟩
theorem xlst (h : Ax X es tes mes) : Ex_ X (.List es pos) (tLst tes) (lstM mes) := ⟨pe_lst h.pa, fun {μ Hd H σ E r E'} R e Q q => by
  obtain ⟨rs, E1, e1, e⟩ := bindM_some e
  split at e
  · rename_i hz
    obtain ⟨ds, E2, e2, e⟩ := bindM_some e
    refine h.am R e1 _ fun μ1 Hd1 H1 vs g1 R1 r1 => ?_
    obtain ⟨Hd2, g2, R2, r2⟩ := fzA_ok R1 r1 e2
    refine ⟨by rw [r1.len]; exact sz_of hz, fun p hp => ?_⟩
    obtain ⟨g3, R3, r3⟩ := newL_ok R2 r2 e hp
    exact q _ _ _ _ ((g1.trans g2).trans g3) R3 r3
  · cases e⟩
end
end Hk
/-! Hk3: statements, loops, a def's promise and its call. -/
namespace Hk
open PySem PySem.Spec PyProof.Rows L2 Evl

section
variable {X : Cx} {a b c e tg iter : Expr} {ta tb tc te : TE} {ma mb mc m : M Vl} {pos : Pos} {tt : TT} {mt : M Bool} {st : Stmt} {sts rest : List Stmt} {ts tu : TS} {ms mu : En → Option Rs} {es : List Expr} {tes : TA} {mes : M (List Vl)}

/-! ### blocks -/
def nilS : En → Option Rs := fun E => some (.nx E)
def seqS (m n : En → Option Rs) : En → Option Rs := fun E => match m E with
  | some (.nx E1) => n E1
  | o => o
theorem sm_seq {K : PySem.W.Frag} (h1 : SM K ts ms) (h2 : SM K tu mu) : SM K (tSeq ts tu) (seqS ms mu) := fun {μ Hd H σ E R} r e D d => by
  unfold seqS at e
  cases q : ms E with
  | none =>
    rw [q] at e
    cases e
  | some Q =>
    rw [q] at e
    refine h1 r q _ ?_
    cases Q with
    | nx E1 => exact fun μ1 Hd1 H1 σ1 g1 R1 => h2 R1 e D (Dn.gr g1 d)
    | rt v E1 =>
      cases e
      exact d
    | bk E1 =>
      cases e
      exact d
    | ct E1 =>
      cases e
      exact d
theorem sm_next {K : PySem.W.Frag} : SM K tNext nilS := fun {μ Hd H σ E R} r e D d => by
  cases e
  exact d μ Hd H σ (Gr.refl μ Hd) r
theorem bnil : Bx X [] tNext nilS := ⟨pss_nil, sm_next⟩
theorem bone (h : Sx X st ts ms) : Bx X [st] ts ms := ⟨pss_one h.ps, h.sm⟩
theorem bcons (h : Sx X st ts ms) (hr : Bx X rest tu mu) : Bx X (st :: rest) (tSeq ts tu) (seqS ms mu) := ⟨pss_cons h.ps hr.ps, sm_seq h.sm hr.sm⟩
/-! ### simple statements -/
def setE (i : Nat) (r : Vl) (E : En) : En := ⟨E.sl.set i (some r), E.ce⟩
theorem Rl.setE {K : PySem.W.Frag} {μ : List Addr} {Hd H : Hp} {σ : L2.St} {E : En} {r : Vl} {v : V} (R : Rl K μ Hd H σ E) (i : Nat) (h : Rv K μ Hd r v) : Rl K μ Hd H (σ.set i (some v)) (setE i r E) := ⟨R.wo, R.sl.set i h⟩
def setS (i : Nat) (m : M Vl) : En → Option Rs := fun E => match m E with
  | some (r, E1) => some (.nx (setE i r E1))
  | none => none
theorem sm_set {K : PySem.W.Frag} {te : TE} {m : M Vl} (i : Nat) (h : EM K te m) : SM K (tAsg te (gName i)) (setS i m) := fun {μ Hd H σ E R} r e D d => by
  unfold setS at e
  cases q : m E with
  | none =>
    rw [q] at e
    cases e
  | some p =>
    obtain ⟨v, E1⟩ := p
    rw [q] at e
    cases e
    exact h r q _ fun μ1 Hd1 H1 x g1 R1 r1 => d μ1 Hd1 H1 _ g1 (R1.setE i r1)
theorem sset (i : Nat) {x : Str} {pos' : Pos} (h : Ex_ X e te m) (hN : X.N.Nodup) (hi : X.N[i]? = some x := by rfl) (hx : Loc X.env.scope x := by first | exact Or.inl rfl | exact Or.inr rfl) (hs : swapsWith e (some (.Name x pos')) pos.line X.env = pure false := by rfl)
    (hf : X.fn x = true ∨ X.env.scope.names.lookup x = some .local := by first | exact .inl rfl | exact .inr rfl) : Sx X (.Assign [.Name x pos'] e pos) (tAsg te (gName i)) (setS i m) := ⟨ps_set hN hi hx h.pe hs hf, sm_set i h.em⟩
/-- a, b = x, y: two names -/
def set2S (i j : Nat) (m : M (List Vl)) : En → Option Rs := fun E => match m E with
  | some ([x, y], E1) => some (.nx (setE j y (setE i x E1)))
  | _ => none
theorem sset2 {i j : Nat} {x y : Str} {px py pt : Pos} {kt k2 pt2} (h : Ax X [a, b] tes mes) (hc : X.calm = true) (hN : X.N.Nodup) (hi : X.N[i]? = some x) (hj : X.N[j]? = some y) (hij : i ≠ j)
    (hx : X.env.scope.names.lookup x = some .local) (hy : X.env.scope.names.lookup y = some .local)
    (hw : swappedStores [.Tuple [.Name x px, .Name y py] kt pt] (.Tuple [a, b] k2 pt2) X.env = pure (some [x, y]))
    (hs : swapsWithSole [.Tuple [.Name x px, .Name y py] kt pt] (.Tuple [a, b] k2 pt2) pos.line X.env = pure false := by rfl) :
    Sx X (.Assign [.Tuple [.Name x px, .Name y py] kt pt] (.Tuple [a, b] k2 pt2) pos) (tPar i j tes) (set2S i j mes) := ⟨ps_par hc hN hi hj hij hx hy h.pa hw hs, fun {μ Hd H σ E R} r e D d => by
  unfold set2S at e
  split at e
  · rename_i x y E1 q
    cases e
    refine h.am r q _ fun μ1 Hd1 H1 vs g1 R1 r1 => ?_
    cases r1 with
    | cons p1 t =>
      cases t with
      | cons p2 t2 =>
        cases t2
        exact ⟨_, _, rfl, d μ1 Hd1 H1 _ g1 ((R1.setE i p1).setE j p2)⟩
  · cases e⟩
def dropS (m : M Vl) : En → Option Rs := fun E => match m E with
  | some (_, E1) => some (.nx E1)
  | none => none
theorem sexpr (h : Ex_ X e te m) (hs : swapsWith e none pos.line X.env = pure false := by rfl) : Sx X (.Expr e pos) (tDrop te) (dropS m) := ⟨ps_expr h.pe hs, fun {μ Hd H σ E R} r q D d => by
  unfold dropS at q
  cases q1 : m E with
  | none =>
    rw [q1] at q
    cases q
  | some p =>
    obtain ⟨v, E1⟩ := p
    rw [q1] at q
    cases q
    exact h.em r q1 _ fun μ1 Hd1 H1 x g1 R1 r1 => d μ1 Hd1 H1 _ g1 R1⟩
def retS (m : M Vl) : En → Option Rs := fun E => match m E with
  | some (r, E1) => some (.rt r E1)
  | none => none
theorem sret (h : Ex_ X e te m) : Sx X (.Return (some e) pos) (tRet te) (retS m) := ⟨ps_ret h.pe, fun {μ Hd H σ E R} r q D d => by
  unfold retS at q
  cases q1 : m E with
  | none =>
    rw [q1] at q
    cases q
  | some p =>
    obtain ⟨v, E1⟩ := p
    rw [q1] at q
    cases q
    exact h.em r q1 _ fun μ1 Hd1 H1 x g1 R1 r1 => d μ1 Hd1 H1 _ x g1 R1 r1⟩
theorem sretN : Sx X (.Return none pos) tRetN (fun E => some (.rt (.d .non) E)) := ⟨ps_retN, fun {μ Hd H σ E R} r q D d => by
  cases q
  exact d μ Hd H σ .non (Gr.refl μ Hd) r rfl⟩
def ifS (t : M Bool) (m n : En → Option Rs) : En → Option Rs := fun E => match t E with
  | some (b, E1) => if b = true then m E1 else n E1
  | none => none
theorem sif (hc : Tx X c tt mt) (ha : Bx X sts ts ms) (hb : Bx X rest tu mu) : Sx X (.If c sts rest pos) (tIfS tt ts tu) (ifS mt ms mu) := ⟨ps_if hc.pt ha.ps hb.ps, fun {μ Hd H σ E R} r q D d => by
  unfold ifS at q
  cases q1 : mt E with
  | none =>
    rw [q1] at q
    cases q
  | some p =>
    obtain ⟨k, E1⟩ := p
    rw [q1] at q
    refine hc.tm r q1 _ fun μ1 Hd1 H1 g1 R1 => ?_
    cases k with
    | true => exact ha.sm R1 q D (Dn.gr g1 d)
    | false => exact hb.sm R1 q D (Dn.gr g1 d)⟩
/-- what is never reached -/
theorem bnever : Bx X sts tNever (fun _ => none) := ⟨pss_never, fun {μ Hd H σ E R} r q D d => by cases q⟩
theorem sbreak : Sx X (.Break pos) tBreak (fun E => some (.bk E)) := ⟨ps_break, fun {μ Hd H σ E R} r q D d => by
  cases q
  exact d μ Hd H σ (Gr.refl μ Hd) r⟩
theorem scont : Sx X (.Continue pos) tCont (fun E => some (.ct E)) := ⟨ps_continue, fun {μ Hd H σ E R} r q D d => by
  cases q
  exact d μ Hd H σ (Gr.refl μ Hd) r⟩
/-- x op= e, two ints -/
def augS (i : Nat) (f : Int → Int → Int) (m : M Vl) : En → Option Rs := fun E => match E.sl[i]?, m E with
  | some (some (.d (.int x))), some (.d (.int y), E1) => some (.nx (setE i (.d (.int (f x y))) E1))
  | _, _ => none
theorem saug (i : Nat) {x : Str} {op : Operator} {f : Int → Int → Int} {pos' : Pos} (ho : PIp X op (ipI f)) (h : Ex_ X e te m) (hN : X.N.Nodup) (hi : X.N[i]? = some x := by rfl) (hx : Loc X.env.scope x := by first | exact Or.inl rfl | exact Or.inr rfl)
    (hf : X.fn x = true ∨ X.env.scope.names.lookup x = some .local := by first | exact .inl rfl | exact .inr rfl) : Sx X (.AugAssign (.Name x pos') op e pos) (tAug i te (ipI f)) (augS i f m) := ⟨ps_aug hN hi hx h.pe ho hf, fun {μ Hd H σ E R} r q D d => by
  unfold augS at q
  split at q
  · rename_i x y E1 e1 e2
    cases q
    obtain ⟨v, h1, h2⟩ := r.sl.2 i _ e1
    cases (show v = .int x from h2)
    exact ⟨.int x, h1, h.em r e2 _ fun μ1 Hd1 H1 w g1 R1 r1 => by
      cases (show w = .int y from r1)
      exact ⟨x, y, rfl, rfl, d μ1 Hd1 H1 _ g1 (R1.setE i (rfl : V.int (f x y) = .int (f x y)))⟩⟩
  · cases q⟩

/-! ### loops -/
def whileS (t : M Bool) (m : En → Option Rs) : Nat → En → Option Rs
  | 0, _ => none
  | n + 1, E => match t E with
    | some (true, E1) => match m E1 with
      | some (.nx E2) => whileS t m n E2
      | some (.ct E2) => whileS t m n E2
      | some (.bk E2) => some (.nx E2)
      | some (.rt r E2) => some (.rt r E2)
      | none => none
    | some (false, E1) => some (.nx E1)
    | none => none
theorem sm_while {K : PySem.W.Frag} (n : Nat) (hc : TM K tt mt) (hb : SM K ts ms) : SM K (tWhile tt ts) (whileS mt ms n) := fun {μ Hd H σ E R} r q D d => by
  refine ⟨fun k σ' H' => ∃ μ' Hd' E', Gr μ Hd μ' Hd' ∧ Rl K μ' Hd' H' σ' E' ∧ whileS mt ms k E' = some R, ⟨n, μ, Hd, E, Gr.refl μ Hd, r, q⟩, fun k σ' H' hw => ?_⟩
  obtain ⟨μ', Hd', E', g, r', q'⟩ := hw
  cases k with
  | zero => cases q'
  | succ k =>
    unfold whileS at q'
    cases q1 : mt E' with
    | none =>
      rw [q1] at q'
      cases q'
    | some p =>
      obtain ⟨b, E1⟩ := p
      rw [q1] at q'
      refine hc r' q1 _ fun μ1 Hd1 H1 g1 R1 => ?_
      cases b with
      | false =>
        cases q'
        exact d μ1 Hd1 H1 σ' (g.trans g1) R1
      | true =>
        refine ⟨fun σ2 H2 => ∃ m', m' < k + 1 ∧ ∃ μ2 Hd2 E2, Gr μ Hd μ2 Hd2 ∧ Rl K μ2 Hd2 H2 σ2 E2 ∧ whileS mt ms m' E2 = some R, fun _ _ h => h, ?_⟩
        have q' : (match ms E1 with
          | some (.nx E2) => whileS mt ms k E2
          | some (.ct E2) => whileS mt ms k E2
          | some (.bk E2) => some (.nx E2)
          | some (.rt r E2) => some (.rt r E2)
          | none => none) = some R := q'
        cases q2 : ms E1 with
        | none =>
          rw [q2] at q'
          cases q'
        | some Q =>
          rw [q2] at q'
          refine hb R1 q2 _ ?_
          cases Q with
          | nx E2 => exact fun μ2 Hd2 H2 σ2 g2 R2 => ⟨k, Nat.lt_succ_self k, μ2, Hd2, E2, (g.trans g1).trans g2, R2, q'⟩
          | ct E2 => exact fun μ2 Hd2 H2 σ2 g2 R2 => ⟨k, Nat.lt_succ_self k, μ2, Hd2, E2, (g.trans g1).trans g2, R2, q'⟩
          | bk E2 =>
            cases q'
            exact fun μ2 Hd2 H2 σ2 g2 R2 => d μ2 Hd2 H2 σ2 ((g.trans g1).trans g2) R2
          | rt v E2 =>
            cases q'
            exact fun μ2 Hd2 H2 σ2 w g2 R2 r2 => d μ2 Hd2 H2 σ2 w ((g.trans g1).trans g2) R2 r2
theorem swhile (n : Nat) (hp : PassesOwn (model X.prog X.w) X.A X.env X.xe) (hc : Tx X c tt mt) (hb : Bx X sts ts ms) : Sx X (.While c sts [] pos) (tWhile tt ts) (whileS mt ms n) := ⟨ps_while hp hc.pt hb.ps, sm_while n hc.tm hb.sm⟩

/-- an iterator that serves data -/
def Serves (J : It) (K : PySem.W.Frag) (Hd0 : Hp) (ds : List Dt) : Prop := ∀ (Hd H : Hp) (i : Nat), Ex Hd0 Hd → Ex Hd H → (ds.length ≤ i → J.stop i H) ∧ ∀ d, ds[i]? = some d → J.go i H ∧ ∀ x H', J.yld i H x H' →
  ∃ Hd', ((H' = H ∧ Hd' = Hd) ∨ ∃ p o, H p = none ∧ H' = upd H p o ∧ Hd' = upd Hd p o) ∧ Rp K Hd' d x
def IM (K : PySem.W.Frag) (wi : TI) (m : M (List Dt)) : Prop := ∀ {μ : List Addr} {Hd H : Hp} {σ : L2.St} {E : En} {ds : List Dt} {E' : En}, Rl K μ Hd H σ E → m E = some (ds, E') → ∀ Q : It → Hp → Prop,
  (∀ μ' Hd' H' J, Gr μ Hd μ' Hd' → Rl K μ' Hd' H' σ E' → Serves J K Hd' ds → Q J H') → wi σ H Q
structure Ix_ (X : Cx) (tg iter : Expr) (wi : TI) (m : M (List Dt)) : Prop where
  pi : PI X tg iter wi
  im : IM X.K wi m
def forL (g : Vl → En → Option En) (m : En → Option Rs) : List Dt → En → Option Rs
  | [], E => some (.nx E)
  | d :: ds, E => match g (.d d) E with
    | some E1 => match m E1 with
      | some (.nx E2) => forL g m ds E2
      | some (.ct E2) => forL g m ds E2
      | some (.bk E2) => some (.nx E2)
      | some (.rt r E2) => some (.rt r E2)
      | none => none
    | none => none
def forS (i : M (List Dt)) (g : Vl → En → Option En) (m : En → Option Rs) : En → Option Rs := fun E => match i E with
  | some (ds, E1) => forL g m ds E1
  | none => none
theorem Serves.new {J : It} {K : PySem.W.Frag} {Hd : Hp} {ds : List Dt} (s : Serves J K Hd ds) {μ : List Addr} {Hd1 H1 : Hp} {σ : L2.St} {E : En} (R : Rl K μ Hd1 H1 σ E) (e : Ex Hd Hd1) {i : Nat} {d : Dt} (hd : ds[i]? = some d) :
    J.go i H1 ∧ ∀ x H', J.yld i H1 x H' → ∃ Hd', Gr μ Hd1 μ Hd' ∧ Rl K μ Hd' H' σ E ∧ Rp K Hd' d x := by
  obtain ⟨h1, h2⟩ := (s Hd1 H1 i e R.wo.ex).2 d hd
  refine ⟨h1, fun x H' hy => ?_⟩
  obtain ⟨Hd', hc, hr⟩ := h2 x H' hy
  rcases hc with ⟨rfl, rfl⟩ | ⟨p, o, hp, rfl, rfl⟩
  · exact ⟨Hd', Gr.refl μ Hd', R, hr⟩
  · obtain ⟨g, R'⟩ := R.newD (o := o) hp
    exact ⟨_, g, R', hr⟩
theorem drop_cons {α : Type} {l : List α} {i : Nat} {x : α} {r : List α} (h : l.drop i = x :: r) : l[i]? = some x ∧ l.drop (i + 1) = r := by
  constructor
  · have q : (l.drop i)[0]? = some x := by
      rw [h]
      rfl
    rw [List.getElem?_drop] at q
    simpa using q
  · have q : (l.drop i).drop 1 = r := by
      rw [h]
      rfl
    rw [List.drop_drop] at q
    simpa [Nat.add_comm] using q
theorem sm_for {K : PySem.W.Frag} {wi : TI} {mi : M (List Dt)} {g : TG} {gm : Vl → En → Option En} (hi : IM K wi mi) (hg : GM K g gm) (hb : SM K ts ms) : SM K (tFor wi g ts) (forS mi gm ms) := fun {μ Hd H σ E R} r q D d => by
  unfold forS at q
  cases q1 : mi E with
  | none =>
    rw [q1] at q
    cases q
  | some p =>
    obtain ⟨ds, E1⟩ := p
    rw [q1] at q
    refine hi r q1 _ fun μ1 Hd1 H1 J g1 R1 sv => ?_
    refine ⟨fun i k σ' H' => ∃ μ' Hd' E', Gr μ1 Hd1 μ' Hd' ∧ Rl K μ' Hd' H' σ' E' ∧ k = ds.length - i ∧ forL gm ms (ds.drop i) E' = some R, ⟨_, μ1, Hd1, E1, Gr.refl _ _, R1, rfl, q⟩, fun i k σ' H' hw => ?_⟩
    obtain ⟨μ', Hd', E', g2, R2, ek, q2⟩ := hw
    cases hd : ds.drop i with
    | nil =>
      rw [hd] at q2
      cases q2
      have hl : ds.length ≤ i := by
        have := congrArg List.length hd
        rw [List.length_drop] at this
        simp at this
        omega
      exact .inl ⟨(sv Hd' H' i g2.ex R2.wo.ex).1 hl, d μ' Hd' H' σ' (g1.trans g2) R2⟩
    | cons x rest =>
      rw [hd] at q2
      obtain ⟨hx, hr⟩ := drop_cons hd
      have hl : i < ds.length := (List.getElem?_eq_some_iff.mp hx).1
      obtain ⟨s1, s2⟩ := sv.new R2 g2.ex hx
      refine .inr ⟨s1, fun σ2 H2 => ∃ m', m' < k ∧ ∃ μ2 Hd2 E2, Gr μ1 Hd1 μ2 Hd2 ∧ Rl K μ2 Hd2 H2 σ2 E2 ∧ m' = ds.length - (i + 1) ∧ forL gm ms (ds.drop (i + 1)) E2 = some R, fun _ _ h => h, fun v H3 hy => ?_⟩
      obtain ⟨Hd3, g3, R3, r3⟩ := s2 v H3 hy
      unfold forL at q2
      cases q3 : gm (.d x) E' with
      | none =>
        rw [q3] at q2
        cases q2
      | some E3 =>
        rw [q3] at q2
        refine hg R3 (r := .d x) r3 q3 _ fun μ4 Hd4 H4 σ4 g4 R4 => ?_
        have q2 : (match ms E3 with
          | some (.nx E2) => forL gm ms rest E2
          | some (.ct E2) => forL gm ms rest E2
          | some (.bk E2) => some (.nx E2)
          | some (.rt r E2) => some (.rt r E2)
          | none => none) = some R := q2
        cases q4 : ms E3 with
        | none =>
          rw [q4] at q2
          cases q2
        | some Q =>
          rw [q4] at q2
          have gg : Gr μ1 Hd1 μ4 Hd4 := (g2.trans g3).trans g4
          refine hb R4 q4 _ ?_
          cases Q with
          | nx E5 => exact fun μ5 Hd5 H5 σ5 g5 R5 => ⟨ds.length - (i + 1), by omega, μ5, Hd5, E5, gg.trans g5, R5, rfl, by rw [hr]; exact q2⟩
          | ct E5 => exact fun μ5 Hd5 H5 σ5 g5 R5 => ⟨ds.length - (i + 1), by omega, μ5, Hd5, E5, gg.trans g5, R5, rfl, by rw [hr]; exact q2⟩
          | bk E5 =>
            cases q2
            exact fun μ5 Hd5 H5 σ5 g5 R5 => d μ5 Hd5 H5 σ5 ((g1.trans gg).trans g5) R5
          | rt v E5 =>
            cases q2
            exact fun μ5 Hd5 H5 σ5 w g5 R5 r5 => d μ5 Hd5 H5 σ5 w ((g1.trans gg).trans g5) R5 r5
theorem sfor {wi : TI} {mi : M (List Dt)} {g : TG} {gm : Vl → En → Option En} (hp : PassesOwn (model X.prog X.w) X.A X.env X.xe) (hc : X.calm = true) (hi : Ix_ X tg iter wi mi) (hg : Gx X tg g gm) (hb : Bx X sts ts ms)
    (hs : ∀ x, foldedSetIterable iter X.env x = pure x := by intro _; rfl) : Sx X (.For tg iter sts [] pos) (tFor wi g ts) (forS mi gm ms) := ⟨ps_for hp hc hi.pi hg.pg hb.ps hs, sm_for hi.im hg.gm hb.sm⟩
/-! ### targets, iterables -/
def nameG (i : Nat) : Vl → En → Option En := fun r E => some (setE i r E)
theorem gm_name {K : PySem.W.Frag} (i : Nat) : GM K (gName i) (nameG i) := fun {μ Hd H σ E E' r v} R h e Q q => by
  cases e
  exact q μ Hd H _ (Gr.refl μ Hd) (R.setE i h)
theorem gname (i : Nat) {x : Str} (hN : X.N.Nodup) (hi : X.N[i]? = some x := by rfl) (hx : Loc X.env.scope x := by first | exact Or.inl rfl | exact Or.inr rfl) (hf : X.fn x = true ∨ X.env.scope.names.lookup x = some .local := by first | exact .inl rfl | exact .inr rfl) :
    Gx X (.Name x pos) (gName i) (nameG i) := ⟨pg_name hN hi hx hf, gm_name i⟩
/-- a, b, .. out of a tuple that is data -/
def gsL : List (Vl → En → Option En) → List Dt → En → Option En
  | [], [], E => some E
  | g :: gs, d :: ds, E => match g (.d d) E with
    | some E1 => gsL gs ds E1
    | none => none
  | _, _, _ => none
def tupG (gs : List (Vl → En → Option En)) : Vl → En → Option En
  | .d (.tup ds), E => gsL gs ds E
  | _, _ => none
def GsM (K : PySem.W.Frag) (t : TGs) (gs : List (Vl → En → Option En)) : Prop := ∀ {μ : List Addr} {Hd H : Hp} {σ : L2.St} {E E' : En} {ds : List Dt} {vs : List V}, Rl K μ Hd H σ E → RpA K Hd ds vs → gsL gs ds E = some E' → ∀ Q : L2.St → Hp → Prop,
  (∀ μ' Hd' H' σ', Gr μ Hd μ' Hd' → Rl K μ' Hd' H' σ' E' → Q σ' H') → t vs σ H Q
theorem gsm_nil {K : PySem.W.Frag} : GsM K gNil [] := fun {μ Hd H σ E E' ds vs} R h e Q q => by
  cases ds with
  | nil =>
    cases e
    exact ⟨h, q μ Hd H σ (Gr.refl μ Hd) R⟩
  | cons d ds => cases e
theorem gsm_cons {K : PySem.W.Frag} {t : TG} {u : TGs} {g : Vl → En → Option En} {gs : List (Vl → En → Option En)} (h1 : GM K t g) (h2 : GsM K u gs) : GsM K (gCons t u) (g :: gs) := fun {μ Hd H σ E E' ds vs} R h e Q q => by
  cases ds with
  | nil => cases e
  | cons d ds =>
    unfold gsL at e
    cases q1 : g (.d d) E with
    | none =>
      rw [q1] at e
      cases e
    | some E1 =>
      rw [q1] at e
      obtain ⟨x, r, rfl, p1, p2⟩ := h
      refine ⟨x, r, rfl, h1 R (r := .d d) p1 q1 _ fun μ1 Hd1 H1 σ1 g1 R1 => ?_⟩
      exact h2 R1 (RpA.ex g1.ex _ _ p2) e Q fun μ2 Hd2 H2 σ2 g2 R2 => q μ2 Hd2 H2 σ2 (g1.trans g2) R2
theorem gsL_len {gs : List (Vl → En → Option En)} : ∀ {ds : List Dt} {E E' : En}, gsL gs ds E = some E' → ds.length = gs.length := by
  induction gs with
  | nil =>
    intro ds E E' h
    cases ds with
    | nil => rfl
    | cons d ds => cases h
  | cons g gs ih =>
    intro ds E E' h
    cases ds with
    | nil => cases h
    | cons d ds =>
      unfold gsL at h
      cases q1 : g (.d d) E with
      | none =>
        rw [q1] at h
        cases h
      | some E1 =>
        rw [q1] at h
        rw [List.length_cons, List.length_cons, ih h]
theorem gm_tup {K : PySem.W.Frag} {t : TGs} {gs : List (Vl → En → Option En)} {n : Nat} (hn : gs.length = n) (h : GsM K t gs) : GM K (gTup K n t) (tupG gs) := fun {μ Hd H σ E E' r v} R hv e Q q => by
  unfold tupG at e
  split at e
  · rename_i ds
    obtain ⟨a, vs, rfl, h2, h3⟩ := hv
    exact ⟨a, vs, rfl, ex_t R.wo.ex h2, by rw [h3.len, gsL_len e, hn], h R h3 e Q q⟩
  · cases e
theorem PI.or {w1 w2 : TI} (h1 : PI X tg iter w1) (h2 : PI X tg iter w2) : PI X tg iter (fun σ H R => w1 σ H R ∨ w2 σ H R) := ⟨fun pins s σ H R I h => by
  rcases h with h | h
  · exact h1.run pins s σ H R I h
  · exact h2.run pins s σ H R I h⟩
/-- the items of a list, of a tuple; a cell's list is data from then on -/
def itemsD : Dt → Option (List Dt)
  | .lst xs => some xs
  | .sq xs => some xs
  | .tup xs => some xs
  | _ => none
def itemsM (m : M Vl) : M (List Dt) := bindM (bindM m fzM) fun d => fun E => (itemsD d).map fun xs => (xs, E)
theorem serves_l {K : PySem.W.Frag} {Hd : Hp} {a : Addr} {ds : List Dt} {vs : List V} (h : SqL K Hd a vs) (hr : RpA K Hd ds vs) : Serves (Itl K a) K Hd ds := fun Hd1 H1 i e1 e2 => by
  have h1 := ex_l e2 (ex_l e1 h)
  refine ⟨fun hl => ⟨vs, h1, by rw [hr.len]; exact hl⟩, fun d hd => ?_⟩
  obtain ⟨v, g1, g2⟩ := RpA.at hr hd
  exact ⟨⟨vs, v, h1, g1⟩, fun x H' ⟨q1, q2⟩ => ⟨Hd1, .inl ⟨q1, rfl⟩, by
    have := Option.some.inj ((q2 vs h1).symm.trans g1)
    subst this
    exact Rp.ex e1 _ _ g2⟩⟩
theorem serves_t {K : PySem.W.Frag} {Hd : Hp} {a : Addr} {ds : List Dt} {vs : List V} (h : SqT K Hd a vs) (hr : RpA K Hd ds vs) : Serves (Itt K a) K Hd ds := fun Hd1 H1 i e1 e2 => by
  have h1 := ex_t e2 (ex_t e1 h)
  refine ⟨fun hl => ⟨vs, h1, by rw [hr.len]; exact hl⟩, fun d hd => ?_⟩
  obtain ⟨v, g1, g2⟩ := RpA.at hr hd
  exact ⟨⟨vs, v, h1, g1⟩, fun x H' ⟨q1, q2⟩ => ⟨Hd1, .inl ⟨q1, rfl⟩, by
    have := Option.some.inj ((q2 vs h1).symm.trans g1)
    subst this
    exact Rp.ex e1 _ _ g2⟩⟩
theorem iseq {te : TE} {m : M Vl} (h : Ex_ X iter te m) : Ix_ X tg iter (fun σ H R => iList X.K te σ H R ∨ iTup X.K te σ H R) (itemsM m) := ⟨PI.or (pi_list h.pe) (pi_tup h.pe), fun {μ Hd H σ E ds E'} R e Q q => by
  obtain ⟨d, E1, e1, e2⟩ := bindM_some e
  obtain ⟨r, E2, e3, e4⟩ := bindM_some e1
  cases d with
  | lst xs =>
    cases e2
    refine .inl (h.em R e3 _ fun μ1 Hd1 H1 v g1 R1 r1 => ?_)
    obtain ⟨Hd2, g2, R2, r2⟩ := fzM_ok R1 r1 e4
    obtain ⟨a, vs, rfl, h2, h3⟩ := r2
    exact ⟨a, rfl, ⟨vs, sq_of (R2.wo.ex a _ h2)⟩, q μ1 Hd2 H1 _ (g1.trans g2) R2 (serves_l (sq_of h2) h3)⟩
  | sq xs =>
    cases e2
    refine .inl (h.em R e3 _ fun μ1 Hd1 H1 v g1 R1 r1 => ?_)
    obtain ⟨Hd2, g2, R2, r2⟩ := fzM_ok R1 r1 e4
    obtain ⟨a, vs, rfl, h2, h3⟩ := r2
    exact ⟨a, rfl, ⟨vs, ex_l R2.wo.ex h2⟩, q μ1 Hd2 H1 _ (g1.trans g2) R2 (serves_l h2 h3)⟩
  | tup xs =>
    cases e2
    refine .inr (h.em R e3 _ fun μ1 Hd1 H1 v g1 R1 r1 => ?_)
    obtain ⟨Hd2, g2, R2, r2⟩ := fzM_ok R1 r1 e4
    obtain ⟨a, vs, rfl, h2, h3⟩ := r2
    exact ⟨a, rfl, ⟨vs, ex_t R2.wo.ex h2⟩, q μ1 Hd2 H1 _ (g1.trans g2) R2 (serves_t h2 h3)⟩
  | _ => cases e2⟩
def rngL (lo : Int) (n : Nat) : List Dt := (List.range n).map fun (i : Nat) => .int (lo + (i : Int))
theorem serves_r {K : PySem.W.Frag} {Hd : Hp} (lo : Int) (n : Nat) : Serves (Itr lo n) K Hd (rngL lo n) := fun Hd1 H1 i e1 e2 => by
  have hl : (rngL lo n).length = n := by simp [rngL]
  refine ⟨fun h => by rw [hl] at h; exact h, fun d hd => ?_⟩
  have hi : i < n := by
    have := (List.getElem?_eq_some_iff.mp hd).1
    omega
  refine ⟨hi, fun x H' ⟨q1, q2⟩ => ⟨Hd1, .inl ⟨q1, rfl⟩, ?_⟩⟩
  have e : d = .int (lo + (i : Int)) := by
    unfold rngL at hd
    rw [List.getElem?_map, List.getElem?_range hi] at hd
    exact (Option.some.inj hd).symm
  subst e q2
  exact rfl
def rng1M (m : M (List Vl)) : M (List Dt) := bindM m fun rs => match rs with
  | [.d (.int n)] => fun E => if -(2 ^ 62) ≤ n ∧ n < 2 ^ 62 then some (rngL 0 n.toNat, E) else none
  | _ => failM
theorem irng1 {p : Pos} (hm : X.mg "range" = none) (ha : Ax X [a] tes mes) (hg : Gl X "range" := by rfl) (hs : starEach [a] X.env = [(false, eval a X.env)] := by rfl) : Ix_ X tg (.Call (.Name "range" p) [a] [] pos) (iRng1 tes) (rng1M mes) := ⟨pi_range1 hg hm ha.pa hs, fun {μ Hd H σ E ds E'} R e Q q => by
  obtain ⟨rs, E1, e1, e2⟩ := bindM_some e
  split at e2
  · rename_i n
    split at e2
    · rename_i hn
      cases e2
      refine ha.am R e1 _ fun μ1 Hd1 H1 vs g1 R1 r1 => ?_
      cases r1 with
      | cons p1 t =>
        cases t
        cases (show _ = V.int n from p1)
        exact ⟨n, rfl, hn.1, hn.2, q μ1 Hd1 H1 _ g1 R1 (serves_r 0 n.toNat)⟩
    · cases e2
  · cases e2⟩
def rng2M (m : M (List Vl)) : M (List Dt) := bindM m fun rs => match rs with
  | [.d (.int i), .d (.int j)] => fun E => if -(2 ^ 62) ≤ i ∧ i < 2 ^ 62 ∧ -(2 ^ 62) ≤ j ∧ j < 2 ^ 62 then some (rngL i (j - i).toNat, E) else none
  | _ => failM
theorem irng2 {p : Pos} (hm : X.mg "range" = none) (ha : Ax X [a, b] tes mes) (hg : Gl X "range" := by rfl) (hs : starEach [a, b] X.env = [(false, eval a X.env), (false, eval b X.env)] := by rfl) (hs2 : starEach [b] X.env = [(false, eval b X.env)] := by rfl) : Ix_ X tg (.Call (.Name "range" p) [a, b] [] pos) (iRng2 tes) (rng2M mes) := ⟨pi_range2 hg hm ha.pa hs hs2, fun {μ Hd H σ E ds E'} R e Q q => by
  obtain ⟨rs, E1, e1, e2⟩ := bindM_some e
  split at e2
  · rename_i i j
    split at e2
    · rename_i hn
      cases e2
      refine ha.am R e1 _ fun μ1 Hd1 H1 vs g1 R1 r1 => ?_
      cases r1 with
      | cons p1 t =>
        cases t with
        | cons p2 t2 =>
          cases t2
          cases (show _ = V.int i from p1)
          cases (show _ = V.int j from p2)
          exact ⟨i, j, rfl, hn, q μ1 Hd1 H1 _ g1 R1 (serves_r i (j - i).toNat)⟩
    · cases e2
  · cases e2⟩
end

/-! ### a def's promise: what it does to values and cells -/
abbrev Fn := List Vl → List Ce → Option (Vl × List Ce)
def spM (K : PySem.W.Frag) (n : Nat) (G : Fn) : Sp := fun vs H Q _ => vs.length = n ∧ ∃ (μ : List Addr) (Hd : Hp) (ce : List Ce) (rs : List Vl) (z : Vl) (ce' : List Ce), Wo K μ Hd H ce ∧ RvA K μ Hd rs vs ∧ G rs ce = some (z, ce') ∧
  ∀ μ' Hd' H' v, Gr μ Hd μ' Hd' → Wo K μ' Hd' H' ce' → Rv K μ' Hd' z v → Q v H'
/-- back in the caller: the cells that it knew, and the one that is handed back -/
def trimC (n : Nat) (z : Vl) (ce : List Ce) : Option (Vl × List Ce) := match z with
  | .d d => some (.d d, ce.take n)
  | .c k => if k < n then some (.c k, ce.take n) else match ce[k]? with
    | some c => some (.c n, ce.take n ++ [c])
    | none => none
  | .t _ => none
theorem Wo.trim {K : PySem.W.Frag} {μ0 μ : List Addr} {Hd0 Hd H : Hp} {ce : List Ce} {n : Nat} {z z' : Vl} {v : V} {ce' : List Ce} (w : Wo K μ Hd H ce) (g : Gr μ0 Hd0 μ Hd) (hn : μ0.length = n) (hv : Rv K μ Hd z v) (h : trimC n z ce = some (z', ce')) :
    ∃ μ', Gr μ0 Hd0 μ' Hd ∧ Wo K μ' Hd H ce' ∧ Rv K μ' Hd z' v := by
  have hle : n ≤ μ.length := by
    rw [← hn]
    cases n with
    | zero => omega
    | succ n =>
      have h1 : μ0[n]? = some (μ0[n]'(by omega)) := List.getElem?_eq_getElem (by omega)
      have := (List.getElem?_eq_some_iff.mp (g.pre n _ h1)).1
      omega
  have pre : ∀ (k : Nat) (a : Addr), μ0[k]? = some a → (μ.take n)[k]? = some a := fun k a hk => by
    have := (List.getElem?_eq_some_iff.mp hk).1
    rw [List.getElem?_take_of_lt (by omega)]
    exact g.pre k a hk
  have tk : ∀ {α : Type} {l : List α} {k : Nat} {x : α}, (l.take n)[k]? = some x → l[k]? = some x := fun {α l k x} h => by
    rw [List.getElem?_take] at h
    split at h
    · exact h
    · cases h
  have wt : Wo K (μ.take n) Hd H (ce.take n) := ⟨w.ex, by rw [List.length_take, List.length_take, w.len], fun k c a h1 h2 => w.at_ k c a (tk h1) (tk h2), fun j k a c e h1 h2 h3 h4 => w.inj j k a c e (tk h1) (tk h2) (tk h3) (tk h4)⟩
  unfold trimC at h
  cases z with
  | t rs => cases h
  | d d =>
    cases h
    exact ⟨μ.take n, ⟨pre, g.ex⟩, wt, hv⟩
  | c k =>
    obtain ⟨a, ha, rfl⟩ := hv
    have h : (if k < n then some (Vl.c k, ce.take n) else match ce[k]? with
      | some c => some (.c n, ce.take n ++ [c])
      | none => none) = some (z', ce') := h
    by_cases hk : k < n
    · rw [if_pos hk] at h
      cases h
      exact ⟨μ.take n, ⟨pre, g.ex⟩, wt, a, by rw [List.getElem?_take_of_lt hk]; exact ha, rfl⟩
    · rw [if_neg hk] at h
      cases hc : ce[k]? with
      | none =>
        rw [hc] at h
        cases h
      | some c =>
        rw [hc] at h
        cases h
        have lt : (μ.take n).length = n := by rw [List.length_take]; omega
        have lc : (ce.take n).length = n := by rw [List.length_take, ← w.len]; omega
        refine ⟨μ.take n ++ [a], ⟨fun j b hj => pre_app j b (pre j b hj), g.ex⟩, ⟨w.ex, by rw [List.length_append, List.length_append, lt, lc]; rfl, fun j e b h1 h2 => ?_, fun i j b e f h1 h2 h3 h4 l1 l2 => ?_⟩, a, ?_, rfl⟩
        · rcases get_append_one h1 with h1 | ⟨h1, rfl⟩ <;> rcases get_append_one h2 with h2 | ⟨h2, rfl⟩
          · exact w.at_ j e b (tk h1) (tk h2)
          · have := (List.getElem?_eq_some_iff.mp h1).1
            omega
          · have := (List.getElem?_eq_some_iff.mp h2).1
            omega
          · exact w.at_ k e b hc ha
        · have cs : ∀ {i : Nat} {b : Addr} {e : Ce}, (μ.take n ++ [a])[i]? = some b → (ce.take n ++ [c])[i]? = some e → (i < n ∧ μ[i]? = some b ∧ ce[i]? = some e) ∨ (i = n ∧ μ[k]? = some b ∧ ce[k]? = some e) := fun {i b e} h1 h2 => by
            rcases get_append_one h1 with h1 | ⟨h1, q1⟩ <;> rcases get_append_one h2 with h2 | ⟨h2, q2⟩
            · have := (List.getElem?_eq_some_iff.mp h1).1
              exact .inl ⟨by omega, tk h1, tk h2⟩
            · have := (List.getElem?_eq_some_iff.mp h1).1
              omega
            · have := (List.getElem?_eq_some_iff.mp h2).1
              omega
            · exact .inr ⟨by omega, by rw [q1]; exact ha, by rw [q2]; exact hc⟩
          rcases cs h1 h3 with ⟨i1, i2, i3⟩ | ⟨i1, i2, i3⟩ <;> rcases cs h2 h4 with ⟨j1, j2, j3⟩ | ⟨j1, j2, j3⟩
          · exact w.inj i j b e f i2 j2 i3 j3 l1 l2
          · have q : i = k := w.inj i k b e f i2 j2 i3 j3 l1 l2
            omega
          · have q : k = j := w.inj k j b e f i2 j2 i3 j3 l1 l2
            omega
          · omega
        · have q : (μ.take n ++ [a])[(μ.take n).length]? = some a := by simp
          rw [lt] at q
          exact q
/-- a body as a function: nl local names beside the parameters -/
def fnOf (nl : Nat) (m : En → Option Rs) : Fn := fun rs ce => match m ⟨rs.map some ++ List.replicate nl none, ce⟩ with
  | some (.rt z E) => trimC ce.length z E.ce
  | some (.nx E) => trimC ce.length (.d .non) E.ce
  | _ => none
theorem sl_start {K : PySem.W.Frag} {μ : List Addr} {Hd : Hp} {nl : Nat} : ∀ {rs : List Vl} {vs : List V}, RvA K μ Hd rs vs → Sl K μ Hd (vs.map some ++ List.replicate nl none) (rs.map some ++ List.replicate nl none) := fun {rs vs} h => by
  refine ⟨by rw [List.length_append, List.length_append, List.length_map, List.length_map, h.len, List.length_replicate, List.length_replicate], ?_⟩
  induction h with
  | nil =>
    intro i r e
    have e : (List.replicate nl (none : Option Vl))[i]? = some (some r) := e
    rw [List.getElem?_replicate] at e
    split at e <;> cases e
  | cons h1 t ih =>
    intro i r e
    cases i with
    | zero =>
      cases e
      exact ⟨_, rfl, h1⟩
    | succ i => exact ih i r e
theorem run_fn {K : PySem.W.Frag} {nl n : Nat} {N : List Str} {ts : TS} {m : En → Option Rs} {vs : List V} {H : Hp} {Q : VK} {E : XK} (hm : SM K ts m) (hN : N.length = n + nl) (h : spM K n (fnOf nl m) vs H Q E) : ts { nx := fun _ H' => Q .non H', rt := Q } (L2.start N vs) H := by
  obtain ⟨hl, μ, Hd, ce, rs, z, ce', w, hr, e, q⟩ := h
  have es : L2.start N vs = vs.map some ++ List.replicate nl none := by
    unfold L2.start
    rw [hN, hl, Nat.add_sub_cancel_left]
  rw [es]
  unfold fnOf at e
  have R0 : Rl K μ Hd H (vs.map some ++ List.replicate nl none) ⟨rs.map some ++ List.replicate nl none, ce⟩ := ⟨w, sl_start hr⟩
  cases e1 : m ⟨rs.map some ++ List.replicate nl none, ce⟩ with
  | none =>
    rw [e1] at e
    cases e
  | some R =>
    rw [e1] at e
    refine hm R0 e1 _ ?_
    cases R with
    | rt z0 E1 =>
      exact fun μ1 Hd1 H1 σ1 v g1 R1 r1 => by
        obtain ⟨μ2, g2, w2, r2⟩ := R1.wo.trim g1 w.len r1 e
        exact q μ2 Hd1 H1 v g2 w2 r2
    | nx E1 =>
      exact fun μ1 Hd1 H1 σ1 g1 R1 => by
        obtain ⟨μ2, g2, w2, r2⟩ := R1.wo.trim g1 w.len (z := .d .non) (v := .non) (rfl : V.non = .non) e
        exact q μ2 Hd1 H1 .non g2 w2 r2
    | bk E1 => cases e
    | ct E1 => cases e
theorem spM_len {K : PySem.W.Frag} {n : Nat} {G : Fn} {ps : List Str} (hp : ps.length = n) : ∀ vs H Q E, spM K n G vs H Q E → vs.length = ps.length := fun vs H Q E h => by rw [hp]; exact h.1
/-- a call of a def -/
def callM (G : Fn) (m : M (List Vl)) : M Vl := bindM m fun rs => fun E => match G rs E.ce with
  | some (z, ce) => some (z, ⟨E.sl, ce⟩)
  | none => none
section
variable {X : Cx} {e : Expr} {es : List Expr} {tes : TA} {mes : M (List Vl)} {pos : Pos}
theorem em_call {K : PySem.W.Frag} {G : Fn} {n : Nat} {ta : TA} {ma : M (List Vl)} {E0 : XK} (hn : ∀ E rs E', ma E = some (rs, E') → rs.length = n) (h : AM K ta ma) : EM K (tCall (spM K n G) [] E0 ta) (callM G ma) := fun {μ Hd H σ E r E'} R q Q k => by
  obtain ⟨rs, E1, e1, e2⟩ := bindM_some q
  cases e3 : G rs E1.ce with
  | none =>
    rw [e3] at e2
    cases e2
  | some p =>
    obtain ⟨z, ce⟩ := p
    rw [e3] at e2
    cases e2
    refine h R e1 _ fun μ1 Hd1 H1 vs g1 R1 r1 => ?_
    rw [List.append_nil]
    exact ⟨by rw [r1.len, hn _ _ _ e1], μ1, Hd1, E1.ce, rs, r, ce, R1.wo, r1, e3, fun μ2 Hd2 H2 v g2 w2 r2 => k μ2 Hd2 H2 v (g1.trans g2) ⟨w2, R1.sl.gr g2⟩ r2⟩
theorem nil_len {n : Nat} (h : n = 0) : ∀ (E : En) (rs : List Vl) (E' : En), (retM [] : M (List Vl)) E = some (rs, E') → rs.length = n := fun E rs E' e => by
  cases e
  rw [h]
  rfl
theorem cons_len {n k : Nat} {m : M Vl} {ms : M (List Vl)} (h : ∀ (E : En) (rs : List Vl) (E' : En), ms E = some (rs, E') → rs.length = n) (hk : k = n + 1) : ∀ (E : En) (rs : List Vl) (E' : En), consM m ms E = some (rs, E') → rs.length = k := fun E rs E' e => by
  obtain ⟨x, E1, e1, e⟩ := bindM_some e
  obtain ⟨xs, E2, e2, e⟩ := bindM_some e
  cases e
  rw [List.length_cons, h _ _ _ e2, hk]
end
end Hk
/-! HkT: tuple * int, also by 1, by 0 and below. -/
namespace Hk
open PySem PySem.Spec PyProof.Rows L2 Evl
theorem tuple_mul1 (l : Addr) (items : Array Value) (n : Nat) (dd : Option Addr) (sl : Array (Option Value)) (x : Int) (u : Tok) (c0 : (decide (x < -(2 ^ 63)) || decide (x ≥ 2 ^ 63)) = false) (c1 : (items.isEmpty || x == 1) = true) :
    Meets (Builtin.«tuple.__mul__» ⟨[.ref l, .int x u], []⟩) (fun _ R s => s.heap.get? l = some { cls := .type "tuple", dict := dd, data := .seq items n, slots := sl } ∧ R (.ok (.ret (Value.ref l))) { s with heap := s.heap, toks := s.toks }) :=
  .of_wp fun prog w A R s h => by
    obtain ⟨hp, g, d, tk, os⟩ := s
    obtain ⟨hl, h⟩ := h
    have f1 := AutoSeq1.idx_int
    wp_walk using wpAny_loadPart' hl
    repeat (first
      | (refine wpAny_ite_false (decide_eq_false (by rw [c0]; exact Bool.false_ne_true)) ?_; wp_walk using wpAny_loadPart' hl)
      | (refine wpAny_ite_true (decide_eq_true (by rw [c1])) ?_; wp_walk using wpAny_loadPart' hl))
    exact ⟨_, rfl, h⟩
theorem tuple_mul0 (l : Addr) (items : Array Value) (n : Nat) (dd : Option Addr) (sl : Array (Option Value)) (x : Int) (u : Tok) (c0 : (decide (x < -(2 ^ 63)) || decide (x ≥ 2 ^ 63)) = false) (c1 : (items.isEmpty || x == 1) = false) (c2 : (decide (x ≤ 0) || items.isEmpty) = true) :
    Meets (Builtin.«tuple.__mul__» ⟨[.ref l, .int x u], []⟩) (fun _ R s => s.heap.get? l = some { cls := .type "tuple", dict := dd, data := .seq items n, slots := sl } ∧
      R (.ok (.ret (Value.ref s.heap.objs.size))) { s with heap := s.heap.push { cls := Value.type "tuple", data := Data.seq #[] }, toks := s.toks }) :=
  .of_wp fun prog w A R s h => by
    obtain ⟨hp, g, d, tk, os⟩ := s
    obtain ⟨hl, h⟩ := h
    have f1 := AutoSeq1.idx_int
    wp_walk using wpAny_loadPart' hl
    repeat (first
      | (refine wpAny_ite_false (decide_eq_false (by rw [c0]; exact Bool.false_ne_true)) ?_; wp_walk using wpAny_loadPart' hl)
      | (refine wpAny_ite_false (decide_eq_false (by rw [c1]; exact Bool.false_ne_true)) ?_; wp_walk using wpAny_loadPart' hl)
      | (refine wpAny_ite_true (decide_eq_true (by rw [c2])) ?_; wp_walk using wpAny_loadPart' hl))
    exact ⟨_, rfl, h⟩
def rRepU (K : PySem.W.Frag) : R2 := fun x y H Q => ∃ l k xs, x = .ref l ∧ y = .int k ∧ SqT K H l xs ∧ xs ≠ [] ∧ -1000 ≤ k ∧ k ≤ 1000 ∧ xs.length ≤ 1000 ∧ (k = 1 → Q (.ref l) H) ∧ (k ≠ 1 → ∀ p, H p = none → Q (.ref p) (upd H p (.tup (List.replicate k.toNat xs).flatten)))
section
variable {X : Cx}
theorem op_repU : OpR X (binaryOp .Mult) (rRepU X.K) := by
  intro pins s σ H x y v u Q I rx ry h
  obtain ⟨l, k, xs, rfl, rfl, hT, hne, h1, h2, hz, q1, q⟩ := h
  by_cases hk : 2 ≤ k
  · exact op_repT pins s σ H _ _ v u Q I rx ry ⟨l, k, xs, rfl, rfl, hT, hne, hk, h2, hz, q (by omega)⟩
  cases rx
  obtain ⟨t, rfl⟩ := ry
  obtain ⟨its, r, ⟨⟨cls, dd, data, sl⟩, ho, hc, n, hd⟩, hs⟩ := I.tuple hT
  simp only at hc hd
  subst hc hd
  have hle : its.length = xs.length := r.length.symm
  have hn : its ≠ [] := fun e => hne (by
    rw [e] at hle
    exact List.eq_nil_of_length_eq_zero hle.symm)
  have hi : its.toArray.isEmpty = false := by
    cases its with
    | nil => exact absurd rfl hn
    | cons a b => rfl
  have c0 : (decide (k < -(2 ^ 63)) || decide (k ≥ 2 ^ 63)) = false := by
    rw [decide_eq_false (by omega), decide_eq_false (by omega)] <;> rfl
  by_cases hk1 : k = 1
  · have c1 : (its.toArray.isEmpty || k == 1) = true := by
      rw [hk1]
      cases its.toArray.isEmpty <;> rfl
    exact wpAny_binaryOp_repeat_ref (T := "tuple") (U := "int") (by decide) ⟨_, ho, rfl⟩ (fun s' => typeIs_int s' k t) noFill_tuple_mul F.fills_int_mul F.slot_int_rmul repeat_tuple F.slot_int_index.lookup
      (call_meets F.slot_int_rmul (typeIs_int s k t) F.entry_int_rmul (F.args_int_rmul_2 _ _) (int_rmul_tuple k t l its.toArray n dd sl)
        ⟨ho, rfl, ⟨_, ho, rfl⟩, call_meets F.slot_tuple_mul ⟨_, ho, rfl⟩ F.entry_tuple_mul (F.args_tuple_mul_2 _ _) (tuple_mul1 l its.toArray n dd sl k t c0 c1) ⟨ho, ⟨.ref l, H, I.tok _, rfl, q1 hk1⟩⟩⟩)
  · have c1 : (its.toArray.isEmpty || k == 1) = false := by
      rw [hi, Bool.false_or]
      exact beq_eq_false_iff_ne.mpr hk1
    have c2 : (decide (k ≤ 0) || its.toArray.isEmpty) = true := by
      rw [decide_eq_true (by omega)] <;> rfl
    refine wpAny_binaryOp_repeat_ref (T := "tuple") (U := "int") (by decide) ⟨_, ho, rfl⟩ (fun s' => typeIs_int s' k t) noFill_tuple_mul F.fills_int_mul F.slot_int_rmul repeat_tuple F.slot_int_index.lookup
      (call_meets F.slot_int_rmul (typeIs_int s k t) F.entry_int_rmul (F.args_int_rmul_2 _ _) (int_rmul_tuple k t l its.toArray n dd sl)
        ⟨ho, rfl, ⟨_, ho, rfl⟩, call_meets F.slot_tuple_mul ⟨_, ho, rfl⟩ F.entry_tuple_mul (F.args_tuple_mul_2 _ _) (tuple_mul0 l its.toArray n dd sl k t c0 c1 c2) ⟨ho, ?_⟩⟩)
    have e0 : (List.replicate k.toNat xs).flatten = [] := by
      have : k.toNat = 0 := by omega
      rw [this]
      rfl
    have q2 := q hk1
    rw [e0] at q2
    refine ⟨.ref s.heap.objs.size, _, I.laid (t' := s.toks) (o := .tup []) (fun b ob q => Heap.get?_push_of_some _ q) (Nat.le_refl _) ?_, rfl, q2 _ (I.hok.fresh (Nat.le_refl _))⟩
    exact ⟨Nat.zero_le _, [], .nil, IsTup.new _ _⟩
end
end Hk
/-! Hk4: operators, comparisons, items, slices, built-ins, a list's methods. -/
namespace Hk
open PySem PySem.Spec PyProof.Rows L2 Evl

def rNoU : R2 := fun x y H Q => y = .non ∧ Q (.bl (decide (x = .non))) H
def rNotNoU : R2 := fun x y H Q => y = .non ∧ Q (.bl (!decide (x = .non))) H
def rLenU (K : PySem.W.Frag) : List V → Hp → VK → Prop := fun xs H Q => ∃ x n, xs = [x] ∧ LenV K x H n ∧ Q (.int n) H
def rAbsU : List V → Hp → VK → Prop := fun xs H Q => ∃ i, xs = [.int i] ∧ Q (.int (if i < 0 then -i else i)) H
def rIntU : List V → Hp → VK → Prop := fun xs H Q => (∃ i, xs = [.int i] ∧ Q (.int i) H) ∨ ∃ k, xs = [.bl k] ∧ Q (.int (if k then 1 else 0)) H
def rMinU : List V → Hp → VK → Prop := fun xs H Q => ∃ i j, xs = [.int i, .int j] ∧ Q (.int (if j < i then j else i)) H
def rMaxU : List V → Hp → VK → Prop := fun xs H Q => ∃ i j, xs = [.int i, .int j] ∧ Q (.int (if j > i then j else i)) H
def rListU (K : PySem.W.Frag) : List V → Hp → VK → Prop := fun xs H Q => ∃ p ys, xs = [.ref p] ∧ (SqL K H p ys ∨ SqT K H p ys) ∧ ∀ l, H l = none → Q (.ref l) (upd H l (.lst ys))
def rTupU (K : PySem.W.Frag) : List V → Hp → VK → Prop := fun xs H Q => ∃ p ys, xs = [.ref p] ∧ ((SqL K H p ys ∧ ∀ l, H l = none → Q (.ref l) (upd H l (.tup ys))) ∨ (SqT K H p ys ∧ Q (.ref p) H))
theorem op_noU {X : Cx} : OpR X (compareOp .Is) rNoU := op_isN
theorem op_notNoU {X : Cx} : OpR X (compareOp .IsNot) rNotNoU := op_notN
theorem call_lenU {X : Cx} : CallR X (.builtin "len") (rLenU X.K) := call_len
theorem call_absU {X : Cx} : CallR X (.builtin "abs") rAbsU := call_abs
theorem call_intU {X : Cx} : CallR X (.type "int") rIntU := call_int1
theorem call_minU {X : Cx} (hc : X.calm = true) : CallR X (.builtin "min") rMinU := call_min2 hc
theorem call_maxU {X : Cx} (hc : X.calm = true) : CallR X (.builtin "max") rMaxU := call_max2 hc
theorem call_listU {X : Cx} : CallR X (.type "list") (rListU X.K) := call_list_of
theorem call_tupleU {X : Cx} : CallR X (.type "tuple") (rTupU X.K) := call_tuple_of

/-! ### data that can be compared -/
mutual
def toP : Dt → Option PyData
  | .non => some .none
  | .bl b => some (.bool b)
  | .int i => some (.int i)
  | .str s => some (.str s)
  | .lst xs => (toPA xs).map .list
  | .sq xs => (toPA xs).map .list
  | .tup xs => (toPA xs).map .tuple
  | _ => none
def toPA : List Dt → Option (List PyData)
  | [] => some []
  | d :: ds => match toP d, toPA ds with
    | some p, some ps => some (p :: ps)
    | _, _ => none
end
mutual
theorem toP_ok {K : PySem.W.Frag} {H : Hp} : ∀ (d : Dt) {v : V} {p : PyData}, Rp K H d v → toP d = some p → Dp K H v p
  | .non, v, p, h, e => by
    cases e
    cases (show v = .non from h)
    exact .non
  | .bl b, v, p, h, e => by
    cases e
    cases (show v = .bl b from h)
    exact .bl b
  | .int i, v, p, h, e => by
    cases e
    cases (show v = .int i from h)
    exact .int i
  | .str s, v, p, h, e => by
    cases e
    cases (show v = .str s from h)
    exact .str s
  | .lst xs, v, p, h, e => by
    obtain ⟨a, vs, rfl, h2, h3⟩ := h
    cases q : toPA xs with
    | none =>
      rw [toP, q] at e
      cases e
    | some ps =>
      rw [toP, q] at e
      cases e
      exact .lst (sq_of h2) (toPA_ok xs h3 q)
  | .sq xs, v, p, h, e => by
    obtain ⟨a, vs, rfl, h2, h3⟩ := h
    cases q : toPA xs with
    | none =>
      rw [toP, q] at e
      cases e
    | some ps =>
      rw [toP, q] at e
      cases e
      exact .lst h2 (toPA_ok xs h3 q)
  | .tup xs, v, p, h, e => by
    obtain ⟨a, vs, rfl, h2, h3⟩ := h
    cases q : toPA xs with
    | none =>
      rw [toP, q] at e
      cases e
    | some ps =>
      rw [toP, q] at e
      cases e
      exact .tup h2 (toPA_ok xs h3 q)
  | .obj C ns ds, v, p, h, e => by
    simp [toP] at e
  | .dic ks ds, v, p, h, e => by
    simp [toP] at e
theorem toPA_ok {K : PySem.W.Frag} {H : Hp} : ∀ (ds : List Dt) {vs : List V} {ps : List PyData}, RpA K H ds vs → toPA ds = some ps → DpAll K H vs ps
  | [], vs, ps, h, e => by
    cases e
    rw [show vs = [] from h]
    exact .nil
  | d :: ds, vs, ps, h, e => by
    obtain ⟨x, r, rfl, h2, h3⟩ := h
    cases q1 : toP d with
    | none =>
      rw [toPA, q1] at e
      · cases e
      all_goals (intros; nofun)
    | some p1 =>
      cases q2 : toPA ds with
      | none =>
        simp [toPA, q1, q2] at e
      | some p2 =>
        rw [toPA, q1, q2] at e
        cases e
        exact .cons (toP_ok d h2 q1) (toPA_ok ds h3 q2)
end
def eqd (x y : Dt) : Option Bool := match toP x, toP y with
  | some p, some q => if SeqAt.shaped p = true ∧ SeqAt.shaped q = true then some (PyData.eqv p q) else none
  | _, _ => none
theorem eqd_some {x y : Dt} {b : Bool} (h : eqd x y = some b) : ∃ p q, toP x = some p ∧ toP y = some q ∧ SeqAt.shaped p = true ∧ SeqAt.shaped q = true ∧ b = PyData.eqv p q := by
  unfold eqd at h
  split at h
  · rename_i p q e1 e2
    split at h
    · rename_i hs
      cases h
      exact ⟨p, q, e1, e2, hs.1, hs.2, rfl⟩
    · cases h
  · cases h

section
variable {K : PySem.W.Frag}
/-- an operation that looks at two values and hands back data that has no parts -/
def op2 (f : Dt → Dt → Option Dt) : Vl → Vl → M Vl := fun x y E => match see E.ce x, see E.ce y with
  | some a, some b => (f a b).map fun d => (.d d, E)
  | _, _ => none
theorem op2_some {f : Dt → Dt → Option Dt} {x y z : Vl} {E E' : En} (h : op2 f x y E = some (z, E')) : ∃ a b d, see E.ce x = some a ∧ see E.ce y = some b ∧ f a b = some d ∧ z = .d d ∧ E' = E := by
  unfold op2 at h
  split at h
  · rename_i a b e1 e2
    cases q : f a b with
    | none =>
      rw [q] at h
      cases h
    | some d =>
      rw [q] at h
      cases h
      exact ⟨a, b, d, e1, e2, q, rfl, rfl⟩
  · cases h
theorem om_op2 {r : R2} {f : Dt → Dt → Option Dt} (h : ∀ (H : Hp) (a b d : Dt) (vx vy : V), Rp K H a vx → Rp K H b vy → f a b = some d → ∀ Q : VK, (∀ v, (∀ H', Rp K H' d v) → Q v H) → r vx vy H Q) : OM K r (op2 f) := fun {μ Hd H σ E x y vx vy z E'} R hx hy e Q q => by
  obtain ⟨a, b, d, e1, e2, e3, rfl, rfl⟩ := op2_some e
  exact h H a b d vx vy (see_ok R.wo hx e1) (see_ok R.wo hy e2) e3 Q fun v hv => q μ Hd H v (Gr.refl μ Hd) R (hv Hd)
theorem om_or {r r' : R2} {f : Vl → Vl → M Vl} {g g' : Vl → Vl → M Vl} (h : OM K r g) (h' : OM K r' g') (hf : ∀ x y E z E', f x y E = some (z, E') → g x y E = some (z, E') ∨ g' x y E = some (z, E')) : OM K (fun x y H Q => r x y H Q ∨ r' x y H Q) f := fun {μ Hd H σ E x y vx vy z E'} R hx hy e Q q => by
  rcases hf _ _ _ _ _ e with e | e
  · exact .inl (h R hx hy e Q q)
  · exact .inr (h' R hx hy e Q q)

/-! ### comparisons -/
def eqF : Dt → Dt → Option Dt := fun x y => (eqd x y).map .bl
def neF : Dt → Dt → Option Dt := fun x y => (eqd x y).map fun b => .bl (!b)
theorem om_eq : OM K (rEqD K) (op2 eqF) := om_op2 fun H a b d vx vy ha hb e Q q => by
  unfold eqF at e
  cases e1 : eqd a b with
  | none =>
    rw [e1] at e
    cases e
  | some k =>
    rw [e1] at e
    cases e
    obtain ⟨p1, p2, h1, h2, s1, s2, rfl⟩ := eqd_some e1
    exact ⟨p1, p2, toP_ok a ha h1, toP_ok b hb h2, s1, s2, q _ fun _ => rfl⟩
theorem om_ne : OM K (rNeD K) (op2 neF) := om_op2 fun H a b d vx vy ha hb e Q q => by
  unfold neF at e
  cases e1 : eqd a b with
  | none =>
    rw [e1] at e
    cases e
  | some k =>
    rw [e1] at e
    cases e
    obtain ⟨p1, p2, h1, h2, s1, s2, rfl⟩ := eqd_some e1
    exact ⟨p1, p2, toP_ok a ha h1, toP_ok b hb h2, s1, s2, q _ fun _ => rfl⟩
/-- of two ints -/
def intF (g : Int → Int → Option Dt) : Dt → Dt → Option Dt
  | .int i, .int j => g i j
  | _, _ => none
theorem intF_some {g : Int → Int → Option Dt} {a b d : Dt} (h : intF g a b = some d) : ∃ i j, a = .int i ∧ b = .int j ∧ g i j = some d := by
  unfold intF at h
  split at h
  · exact ⟨_, _, rfl, rfl, h⟩
  · cases h
theorem om_intB {f : Int → Int → Bool} : OM K (rI0 fun i j => .bl (f i j)) (op2 (intF fun i j => some (.bl (f i j)))) := om_op2 fun H a b d vx vy ha hb e Q q => by
  obtain ⟨i, j, rfl, rfl, e⟩ := intF_some e
  cases e
  exact ⟨i, j, ha, hb, q _ fun _ => rfl⟩
theorem om_intI0 {f : Int → Int → Int} : OM K (rI0 fun i j => .int (f i j)) (op2 (intF fun i j => some (.int (f i j)))) := om_op2 fun H a b d vx vy ha hb e Q q => by
  obtain ⟨i, j, rfl, rfl, e⟩ := intF_some e
  cases e
  exact ⟨i, j, ha, hb, q _ fun _ => rfl⟩
theorem om_intI {C : Int → Int → Prop} [∀ i j, Decidable (C i j)] {f : Int → Int → Int} : OM K (rI C fun i j => .int (f i j)) (op2 (intF fun i j => if C i j then some (.int (f i j)) else none)) := om_op2 fun H a b d vx vy ha hb e Q q => by
  obtain ⟨i, j, rfl, rfl, e2⟩ := intF_some e
  split at e2
  · rename_i hc
    cases e2
    exact ⟨i, j, ha, hb, hc, q _ fun _ => rfl⟩
  · cases e2
abbrev ltF := intF fun i j => some (.bl (decide (i < j)))
abbrev leF := intF fun i j => some (.bl (decide (i ≤ j)))
abbrev gtF := intF fun i j => some (.bl (decide (j < i)))
abbrev geF := intF fun i j => some (.bl (decide (j ≤ i)))
instance : ∀ i j, Decidable (CDivN i j) := fun i j => by unfold CDivN; infer_instance
instance : ∀ i j, Decidable (CPow i j) := fun i j => by unfold CPow; infer_instance
instance : ∀ i j, Decidable (CMul i j) := fun i j => by unfold CMul; infer_instance
instance : ∀ (i j : Int), Decidable ((fun _ j => j ≠ 0 : Int → Int → Prop) i j) := fun i j => by show Decidable (j ≠ 0); infer_instance
abbrev modF := intF fun i j => if (fun _ j => j ≠ 0 : Int → Int → Prop) i j then some (.int (i.fmod j)) else none
abbrev fdivF := intF fun i j => if CDivN i j then some (.int (i.fdiv j)) else none
abbrev powF := intF fun i j => if CPow i j then some (.int (i ^ j.toNat)) else none
abbrev subF := intF fun i j => some (.int (i - j))
/-- is None -/
def isNF (neg : Bool) : Dt → Dt → Option Dt := fun x y => match y with
  | .non => match x with
    | .non => some (.bl (!neg))
    | _ => some (.bl neg)
  | _ => none
theorem Rp.non_iff {H : Hp} : ∀ {d : Dt} {v : V}, Rp K H d v → (v = .non ↔ d = .non) := fun {d v} h => by
  cases d with
  | non => exact ⟨fun _ => rfl, fun _ => h⟩
  | bl b => exact ⟨fun e => (by rw [e] at h; cases h), fun e => (by cases e)⟩
  | int b => exact ⟨fun e => (by rw [e] at h; cases h), fun e => (by cases e)⟩
  | str b => exact ⟨fun e => (by rw [e] at h; cases h), fun e => (by cases e)⟩
  | lst b => exact ⟨fun e => (by obtain ⟨a, _, h, _⟩ := h; rw [e] at h; cases h), fun e => (by cases e)⟩
  | sq b => exact ⟨fun e => (by obtain ⟨a, _, h, _⟩ := h; rw [e] at h; cases h), fun e => (by cases e)⟩
  | tup b => exact ⟨fun e => (by obtain ⟨a, _, h, _⟩ := h; rw [e] at h; cases h), fun e => (by cases e)⟩
  | obj b c d => exact ⟨fun e => (by obtain ⟨a, _, _, h, _⟩ := h; rw [e] at h; cases h), fun e => (by cases e)⟩
  | dic b c => exact ⟨fun e => (by obtain ⟨a, _, h, _⟩ := h; rw [e] at h; cases h), fun e => (by cases e)⟩
  | cls C => exact ⟨fun e => (by rw [e] at h; cases h), fun e => (by cases e)⟩
theorem om_isN : OM K rNoU (op2 (isNF false)) := om_op2 (f := isNF false) fun H a b d vx vy ha hb e Q q => by
  have hn := Rp.non_iff ha
  unfold isNF at e
  split at e
  · refine ⟨hb, ?_⟩
    split at e
    · cases e
      rw [show decide (vx = V.non) = true from decide_eq_true (hn.mpr rfl)]
      exact q _ fun _ => rfl
    · rename_i hne
      cases e
      rw [show decide (vx = V.non) = false from decide_eq_false fun h => hne (hn.mp h)]
      exact q _ fun _ => rfl
  · cases e
theorem om_notN : OM K rNotNoU (op2 (isNF true)) := om_op2 (f := isNF true) fun H a b d vx vy ha hb e Q q => by
  have hn := Rp.non_iff ha
  unfold isNF at e
  split at e
  · refine ⟨hb, ?_⟩
    split at e
    · cases e
      rw [show decide (vx = V.non) = true from decide_eq_true (hn.mpr rfl)]
      exact q _ fun _ => rfl
    · rename_i hne
      cases e
      rw [show decide (vx = V.non) = false from decide_eq_false fun h => hne (hn.mp h)]
      exact q _ fun _ => rfl
  · cases e
/-- x in a list or tuple of flat things -/
def flD : Dt → Option V
  | .non => some .non
  | .bl b => some (.bl b)
  | .int i => some (.int i)
  | .str s => some (.str s)
  | _ => none
def flA : List Dt → Option (List V)
  | [] => some []
  | d :: ds => match flD d, flA ds with
    | some v, some vs => some (v :: vs)
    | _, _ => none
theorem flD_ok {H : Hp} {d : Dt} {v w : V} (h : Rp K H d v) (e : flD d = some w) : v = w ∧ flatV v = true := by
  unfold flD at e
  split at e <;> first | cases e | skip
  · exact ⟨h, by rw [show v = V.non from h]; rfl⟩
  · rename_i b
    exact ⟨h, by rw [show v = V.bl b from h]; rfl⟩
  · rename_i b
    exact ⟨h, by rw [show v = V.int b from h]; rfl⟩
  · rename_i b
    exact ⟨h, by rw [show v = V.str b from h]; rfl⟩
theorem flA_ok {H : Hp} : ∀ {ds : List Dt} {vs ws : List V}, RpA K H ds vs → flA ds = some ws → vs = ws ∧ vs.all flatV = true
  | [], vs, ws, h, e => by
    cases e
    rw [show vs = [] from h]
    exact ⟨rfl, rfl⟩
  | d :: ds, vs, ws, h, e => by
    obtain ⟨x, r, rfl, h2, h3⟩ := h
    unfold flA at e
    split at e
    · rename_i v us e1 e2
      cases e
      obtain ⟨p1, p2⟩ := flD_ok h2 e1
      obtain ⟨p3, p4⟩ := flA_ok h3 e2
      exact ⟨by rw [p1, p3], by rw [List.all_cons, p2, p4]; rfl⟩
    · cases e
def inF (neg : Bool) : Dt → Dt → Option Dt := fun x y => match flD x, itemsD y with
  | some v, some ds => match flA ds with
    | some vs => some (.bl (if neg then !inV v vs else inV v vs))
    | none => none
  | _, _ => none
theorem items_ok {H : Hp} {d : Dt} {v : V} {ds : List Dt} (h : Rp K H d v) (e : itemsD d = some ds) : ∃ a vs, v = .ref a ∧ (SqL K H a vs ∨ SqT K H a vs) ∧ RpA K H ds vs := by
  cases d with
  | lst xs =>
    cases e
    obtain ⟨a, vs, h1, h2, h3⟩ := h
    exact ⟨a, vs, h1, .inl (sq_of h2), h3⟩
  | sq xs =>
    cases e
    obtain ⟨a, vs, h1, h2, h3⟩ := h
    exact ⟨a, vs, h1, .inl h2, h3⟩
  | tup xs =>
    cases e
    obtain ⟨a, vs, h1, h2, h3⟩ := h
    exact ⟨a, vs, h1, .inr h2, h3⟩
  | _ => cases e
theorem om_in (neg : Bool) : OM K (rIn K neg) (op2 (inF neg)) := om_op2 fun H a b d vx vy ha hb e Q q => by
  unfold inF at e
  split at e
  · rename_i v ds e1 e2
    split at e
    · rename_i vs e3
      cases e
      obtain ⟨p, us, rfl, hs, hr⟩ := items_ok hb e2
      obtain ⟨rfl, f1⟩ := flD_ok ha e1
      obtain ⟨rfl, f2⟩ := flA_ok hr e3
      exact ⟨p, us, rfl, hs, f1, f2, q _ fun _ => rfl⟩
    · cases e
  · cases e

/-! ### + and * -/
def catStr : Dt → Dt → Option Dt
  | .str a, .str b => if a.length + b.length ≤ sizeLine then some (.str (a ++ b)) else none
  | _, _ => none
def addF : Vl → Vl → M Vl := fun x y E => match see E.ce x, see E.ce y with
  | some (.int i), some (.int j) => some (.d (.int (i + j)), E)
  | some (.str a), some (.str b) => if a.length + b.length ≤ sizeLine then some (.d (.str (a ++ b)), E) else none
  | some (.lst a), some (.lst b) => if a.length + b.length ≤ 100000 then newL (a ++ b) E else none
  | some (.tup a), some (.tup b) => if a.length + b.length ≤ 100000 then some (.d (.tup (a ++ b)), E) else none
  | _, _ => none
def rCatS : R2 := fun x y H Q => ∃ i j, x = .str i ∧ y = .str j ∧ i.length + j.length ≤ sizeLine ∧ Q (.str (i ++ j)) H
abbrev rAdd (K : PySem.W.Frag) : R2 := fun x y H Q => rI0 (fun i j => .int (i + j)) x y H Q ∨ rCatS x y H Q ∨ rCat x y H Q ∨ rCatA K x y H Q
theorem op_addU {X : Cx} : OpR X (binaryOp .Add) (rAdd X.K) := op_add.or (OpR.or (r := rCatS) op_add_str (op_cat.or op_catA))
theorem om_add : OM K (rAdd K) addF := fun {μ Hd H σ E x y vx vy z E'} R hx hy e Q q => by
  unfold addF at e
  split at e
  · rename_i i j e1 e2
    cases e
    exact .inl ⟨i, j, see_ok R.wo hx e1, see_ok R.wo hy e2, q μ Hd H _ (Gr.refl μ Hd) R rfl⟩
  · rename_i a b e1 e2
    split at e
    · rename_i hz
      cases e
      exact .inr (.inl ⟨a, b, see_ok R.wo hx e1, see_ok R.wo hy e2, hz, q μ Hd H _ (Gr.refl μ Hd) R rfl⟩)
    · cases e
  · rename_i a b e1 e2
    split at e
    · rename_i hz
      obtain ⟨p1, v1, rfl, h1, r1⟩ := see_lst R.wo hx e1
      obtain ⟨p2, v2, rfl, h2, r2⟩ := see_lst R.wo hy e2
      refine .inr (.inr (.inl ⟨p1, p2, v1, v2, rfl, rfl, h1, h2, by rw [r1.len, r2.len]; exact sz_of hz, fun p hp => ?_⟩))
      obtain ⟨g, R', r'⟩ := newL_ok R (r1.app r2) e hp
      exact q _ _ _ _ g R' r'
    · cases e
  · rename_i a b e1 e2
    split at e
    · rename_i hz
      cases e
      obtain ⟨p1, v1, rfl, h1, r1⟩ := see_tup R.wo hx e1
      obtain ⟨p2, v2, rfl, h2, r2⟩ := see_tup R.wo hy e2
      refine .inr (.inr (.inr ⟨p1, p2, v1, v2, rfl, rfl, h1, h2, by rw [r1.len, r2.len]; exact sz_of hz, fun hn => ?_, fun hn hm => ?_, fun hn hm p hp => ?_⟩))
      · have ea : a = [] := List.eq_nil_of_length_eq_zero (by rw [← r1.len, hn]; rfl)
        subst ea
        have q2 := see_flat e2
        subst q2
        exact q μ Hd H _ (Gr.refl μ Hd) R hy
      · have eb : b = [] := List.eq_nil_of_length_eq_zero (by rw [← r2.len, hm]; rfl)
        subst eb
        have q2 := see_flat e1
        subst q2
        rw [List.append_nil] at q
        exact q μ Hd H _ (Gr.refl μ Hd) R hx
      · obtain ⟨g, R', r'⟩ := tup_ok R (r1.app r2) hp
        exact q _ _ _ _ g R' r'
    · cases e
  · cases e
def mulF : Vl → Vl → M Vl := fun x y E => match see E.ce x, see E.ce y with
  | some (.int i), some (.int j) => if CMul i j then some (.d (.int (i * j)), E) else none
  | some (.lst a), some (.int j) => if -1000 ≤ j ∧ j ≤ 1000 ∧ a.length ≤ 1000 then newL (List.replicate j.toNat a).flatten E else none
  | some (.tup a), some (.int j) => if -1000 ≤ j ∧ j ≤ 1000 ∧ a.length ≤ 1000 ∧ a ≠ [] then some (.d (.tup (List.replicate j.toNat a).flatten), E) else none
  | _, _ => none
abbrev rMulU (K : PySem.W.Frag) : R2 := fun x y H Q => rI CMul (fun i j => .int (i * j)) x y H Q ∨ rRep x y H Q ∨ rRepU K x y H Q
theorem op_mulU {X : Cx} : OpR X (binaryOp .Mult) (rMulU X.K) := op_mul.or (op_rep.or op_repU)
theorem RpA.repl {H : Hp} {ds : List Dt} {vs : List V} (h : RpA K H ds vs) : ∀ n, RpA K H (List.replicate n ds).flatten (List.replicate n vs).flatten
  | 0 => rfl
  | n + 1 => by
    rw [List.replicate_succ, List.replicate_succ, List.flatten_cons, List.flatten_cons]
    exact h.app (RpA.repl h n)
theorem om_mul : OM K (rMulU K) mulF := fun {μ Hd H σ E x y vx vy z E'} R hx hy e Q q => by
  unfold mulF at e
  split at e
  · rename_i i j e1 e2
    split at e
    · rename_i hc
      cases e
      exact .inl ⟨i, j, see_ok R.wo hx e1, see_ok R.wo hy e2, hc, q μ Hd H _ (Gr.refl μ Hd) R rfl⟩
    · cases e
  · rename_i a j e1 e2
    split at e
    · rename_i hz
      obtain ⟨p1, v1, rfl, h1, r1⟩ := see_lst R.wo hx e1
      refine .inr (.inl ⟨p1, j, v1, rfl, see_ok R.wo hy e2, h1, by omega, by omega, ?_, fun p hp => ?_⟩)
      · rw [r1.len, sizeLine_eq]
        have : a.length * j.toNat ≤ 1000 * 1000 := Nat.mul_le_mul hz.2.2 (by omega)
        omega
      · obtain ⟨g, R', r'⟩ := newL_ok R (r1.repl j.toNat) e hp
        exact q _ _ _ _ g R' r'
    · cases e
  · rename_i a j e1 e2
    split at e
    · rename_i hz
      cases e
      obtain ⟨p1, v1, rfl, h1, r1⟩ := see_tup R.wo hx e1
      refine .inr (.inr ⟨p1, j, v1, rfl, see_ok R.wo hy e2, h1, fun hn => hz.2.2.2 (List.eq_nil_of_length_eq_zero (by rw [← r1.len, hn]; rfl)), by omega, by omega, by rw [r1.len]; omega, fun hj => ?_, fun hj p hp => ?_⟩)
      · subst hj
        have q2 := see_flat e1
        subst q2
        rw [show (List.replicate (1 : Int).toNat a).flatten = a by simp] at q
        exact q μ Hd H _ (Gr.refl μ Hd) R hx
      · obtain ⟨g, R', r'⟩ := tup_ok R (r1.repl j.toNat) hp
        exact q _ _ _ _ g R' r'
    · cases e
  · cases e

/-! ### items and slices -/
def ixD : Dt → Dt → Option Dt
  | .lst xs, .int i => atI xs i
  | .sq xs, .int i => atI xs i
  | .tup xs, .int i => atI xs i
  | .str s, .int i => if s.length ≤ sizeLine then (atI s.cps.toList i).map fun c => .str ⟨#[c]⟩ else none
  | _, _ => none
def ixF : Vl → Vl → M Vl := fun x y E => match see E.ce x, see E.ce y with
  | some a, some b => (ixD a b).map fun d => (.d d, E)
  | _, _ => none
theorem atI_ok {H : Hp} {ds : List Dt} {vs : List V} {i : Int} {d : Dt} (h : RpA K H ds vs) (e : atI ds i = some d) : ∃ v, atI vs i = some v ∧ Rp K H d v := by
  unfold atI at e ⊢
  rw [h.len]
  cases q : ixN ds.length i with
  | none =>
    rw [q] at e
    cases e
  | some j =>
    rw [q] at e
    exact RpA.at h e
theorem om_ix : OM K (rIx K) ixF := fun {μ Hd H σ E x y vx vy z E'} R hx hy e Q q => by
  unfold ixF at e
  split at e
  · rename_i a b e1 e2
    cases e3 : ixD a b with
    | none =>
      rw [e3] at e
      cases e
    | some d =>
      rw [e3] at e
      cases e
      unfold ixD at e3
      split at e3
      · rename_i xs i
        obtain ⟨p1, v1, rfl, h1, r1⟩ := see_lst R.wo hx e1
        obtain ⟨v, g1, g2⟩ := atI_ok r1 e3
        exact .inl ⟨p1, v1, i, v, rfl, see_ok R.wo hy e2, sq_of h1, g1, q μ Hd H v (Gr.refl μ Hd) R g2⟩
      · rename_i xs i
        obtain ⟨p1, v1, rfl, h1, r1⟩ := see_sq R.wo hx e1
        obtain ⟨v, g1, g2⟩ := atI_ok r1 e3
        exact .inl ⟨p1, v1, i, v, rfl, see_ok R.wo hy e2, h1, g1, q μ Hd H v (Gr.refl μ Hd) R g2⟩
      · rename_i xs i
        obtain ⟨p1, v1, rfl, h1, r1⟩ := see_tup R.wo hx e1
        obtain ⟨v, g1, g2⟩ := atI_ok r1 e3
        exact .inr (.inl ⟨p1, v1, i, v, rfl, see_ok R.wo hy e2, h1, g1, q μ Hd H v (Gr.refl μ Hd) R g2⟩)
      · rename_i s i
        split at e3
        · rename_i hz
          cases e4 : atI s.cps.toList i with
          | none =>
            rw [e4] at e3
            cases e3
          | some c =>
            rw [e4] at e3
            cases e3
            exact .inr (.inr ⟨s, i, c, see_ok R.wo hx e1, see_ok R.wo hy e2, hz, e4, q μ Hd H _ (Gr.refl μ Hd) R rfl⟩)
        · cases e3
      · cases e3
  · cases e
end
section
variable {X : Cx} {a b c e : Expr} {es : List Expr} {ta tb tc te : TE} {ma mb mc m : M Vl} {pos : Pos} {tes : TA} {mes : M (List Vl)} {lo hi : Option Expr}
theorem xix (ha : Ex_ X a ta ma) (hb : Ex_ X b tb mb) (hs : PlainIx b := by intro _ _; rfl) : Ex_ X (.Subscript a b pos) (tOp (rIx X.K) ta tb) (bindM ma fun x => bindM mb (ixF x)) := ⟨pe_ix ix_seq ha.pe hb.pe hs, em_op om_ix ha.em hb.em⟩
structure Ox (X : Cx) (e : Option Expr) (t : TO) (m : M (Option Int)) : Prop where
  po : PO X e t
  om : ∀ {μ : List Addr} {Hd H : Hp} {σ : L2.St} {E : En} {o : Option Int} {E' : En}, Rl X.K μ Hd H σ E → m E = some (o, E') → ∀ Q : Option Int → Hp → Prop, (∀ μ' Hd' H', Gr μ Hd μ' Hd' → Rl X.K μ' Hd' H' σ E' → Q o H') → t σ H Q
theorem onone : Ox X none tNoPart (retM none) := ⟨po_none, fun {μ Hd H σ E o E'} R e Q q => by
  cases e
  exact q μ Hd H (Gr.refl μ Hd) R⟩
def partM (m : M Vl) : M (Option Int) := bindM m fun r => match r with
  | .d (.int i) => retM (some i)
  | _ => failM
theorem osome (h : Ex_ X e te m) : Ox X (some e) (tPart te) (partM m) := ⟨po_some h.pe, fun {μ Hd H σ E o E'} R e Q q => by
  obtain ⟨r, E1, e1, e2⟩ := bindM_some e
  split at e2
  · rename_i i
    cases e2
    exact h.em R e1 _ fun μ1 Hd1 H1 v g1 R1 r1 => ⟨i, r1, q μ1 Hd1 H1 g1 R1⟩
  · cases e2⟩
def cutD (xs : List Dt) (lo hi : Option Int) : List Dt := (xs.drop (HT.sIx xs.length 0 lo)).take (HT.sIx xs.length xs.length hi - HT.sIx xs.length 0 lo)
theorem cut_ok {K : PySem.W.Frag} {H : Hp} {ds : List Dt} {vs : List V} (h : RpA K H ds vs) (lo hi : Option Int) : RpA K H (cutD ds lo hi) (cutV vs lo hi) := by
  unfold cutD cutV
  rw [h.len]
  exact (h.drop _).take _
theorem cut_all {ds : List Dt} {lo hi : Option Int} (h : HT.sIx ds.length 0 lo = 0 ∧ HT.sIx ds.length ds.length hi = ds.length) : cutD ds lo hi = ds := by
  unfold cutD
  rw [h.1, h.2]
  simp
def slF (x : Vl) (lo hi : Option Int) : M Vl := fun E => match see E.ce x with
  | some (.lst xs) => newL (cutD xs lo hi) E
  | some (.tup xs) => some (.d (.tup (cutD xs lo hi)), E)
  | some (.str s) => if s.length ≤ sizeLine then some (.d (.str (cutS s lo hi)), E) else none
  | _ => none
theorem xsl {p2 : Pos} (ha : Ex_ X a ta ma) {tl th : TO} {ml mh : M (Option Int)} (hl : Ox X lo tl ml) (hh : Ox X hi th mh) :
    Ex_ X (.Subscript a (.Slice lo hi none p2) pos) (tSl (fun x l h H Q => rSlL X.K x l h H Q ∨ rSlA X.K x l h H Q ∨ rSlS x l h H Q) ta tl th) (bindM ma fun x => bindM ml fun l => bindM mh fun h => slF x l h) :=
  ⟨pe_slice (sl_list.or (sl_tupA.or sl_str)) ha.pe hl.po hh.po, fun {μ Hd H σ E z E'} R e Q q => by
    obtain ⟨x, E1, e1, e⟩ := bindM_some e
    obtain ⟨l, E2, e2, e⟩ := bindM_some e
    obtain ⟨h, E3, e3, e⟩ := bindM_some e
    refine ha.em R e1 _ fun μ1 Hd1 H1 v g1 R1 r1 => ?_
    refine hl.om R1 e2 _ fun μ2 Hd2 H2 g2 R2 => ?_
    refine hh.om R2 e3 _ fun μ3 Hd3 H3 g3 R3 => ?_
    have r3 := Rv.gr (g2.trans g3) r1
    have g0 := (g1.trans g2).trans g3
    unfold slF at e
    split at e
    · rename_i xs e4
      obtain ⟨p1, v1, rfl, h1, r4⟩ := see_lst R3.wo r3 e4
      refine .inl ⟨p1, v1, rfl, sq_of h1, fun p hp => ?_⟩
      obtain ⟨g, R', r'⟩ := newL_ok R3 (cut_ok r4 l h) e hp
      exact q _ _ _ _ (g0.trans g) R' r'
    · rename_i xs e4
      cases e
      obtain ⟨p1, v1, rfl, h1, r4⟩ := see_tup R3.wo r3 e4
      refine .inr (.inl ⟨p1, v1, rfl, h1, fun hw => ?_, fun hw p hp => ?_⟩)
      · rw [r4.len] at hw
        rw [cut_all hw] at q
        have q2 := see_flat e4
        subst q2
        exact q _ _ _ _ g0 R3 r3
      · obtain ⟨g, R', r'⟩ := tup_ok R3 (cut_ok r4 l h) hp
        exact q _ _ _ _ (g0.trans g) R' r'
    · rename_i s e4
      split at e
      · rename_i hz
        cases e
        exact .inr (.inr ⟨s, see_ok R3.wo r3 e4, hz, q _ _ _ _ g0 R3 rfl⟩)
      · cases e
    · cases e⟩
/-! ### calls of built-ins -/
theorem em_cb {K : PySem.W.Frag} {r : List V → Hp → VK → Prop} {f : List Vl → M Vl} {ta : TA} {ma : M (List Vl)} (hf : CM K r f) (ha : AM K ta ma) : EM K (tCB r ta) (bindM ma f) := fun {μ Hd H σ E z E'} R e Q q => by
  obtain ⟨rs, E1, e1, e2⟩ := bindM_some e
  exact ha R e1 _ fun μ1 Hd1 H1 vs g1 R1 r1 => hf R1 r1 e2 Q fun μ2 Hd2 H2 v g2 R2 r2 => q μ2 Hd2 H2 v (g1.trans g2) R2 r2
variable {x : Str} {p : Pos} {id T : String} {r : List V → Hp → VK → Prop} {f : List Vl → M Vl}
theorem xblt (hc : CallR X (.builtin id) r) (hf : CM X.K r f) (hm : X.mg x = none) (hv : bootBuiltins x = some (.builtin id)) (ha : Ax X (e :: es) tes mes) (hg : Gl X x := by rfl) (hn : x ≠ "__name__" := by decide) (hdb : (x == ("__debug__" : Str)) = false := by decide)
    (he : starEach (e :: es) X.env = (false, eval e X.env) :: starEach es X.env := by rfl) (hpl : (backTo pos (starEach es X.env)).any (·.1) = false := by rfl) : Ex_ X (.Call (.Name x p) (e :: es) [] pos) (tCB r tes) (bindM mes f) := ⟨pe_callB hc hg hm hv ha.pa hn hdb he hpl, em_cb hf ha.am⟩
theorem xbty (hc : CallR X (.type T) r) (hf : CM X.K r f) (hm : X.mg x = none) (hv : bootBuiltins x = some (.type T)) (ha : Ax X (e :: es) tes mes) (hg : Gl X x := by rfl) (hn : x ≠ "__name__" := by decide) (hdb : (x == ("__debug__" : Str)) = false := by decide)
    (he : starEach (e :: es) X.env = (false, eval e X.env) :: starEach es X.env := by rfl) (hpl : (backTo pos (starEach es X.env)).any (·.1) = false := by rfl) : Ex_ X (.Call (.Name x p) (e :: es) [] pos) (tCB r tes) (bindM mes f) := ⟨pe_callTy hc hg hm hv ha.pa hn hdb he hpl, em_cb hf ha.am⟩
/-- one value looked at -/
def fn1 (f : Dt → Option Dt) : List Vl → M Vl := fun xs E => match xs with
  | [x] => match see E.ce x with
    | some a => (f a).map fun d => (.d d, E)
    | none => none
  | _ => none
theorem fn1_some {f : Dt → Option Dt} {xs : List Vl} {z : Vl} {E E' : En} (h : fn1 f xs E = some (z, E')) : ∃ x a d, xs = [x] ∧ see E.ce x = some a ∧ f a = some d ∧ z = .d d ∧ E' = E := by
  match xs with
  | [] => cases h
  | [x] =>
    have h : (match see E.ce x with
      | some a => (f a).map fun d => (Vl.d d, E)
      | none => none) = some (z, E') := h
    cases e1 : see E.ce x with
    | none =>
      rw [e1] at h
      cases h
    | some a =>
      rw [e1] at h
      cases q : f a with
      | none =>
        simp [q] at h
      | some d =>
        simp only [q, Option.map_some, Option.some.injEq, Prod.mk.injEq] at h
        obtain ⟨rfl, rfl⟩ := h
        exact ⟨x, a, d, rfl, e1, q, rfl, rfl⟩
  | _ :: _ :: _ => cases h
theorem RvA.one {K : PySem.W.Frag} {μ : List Addr} {Hd : Hp} {x : Vl} {vs : List V} (h : RvA K μ Hd [x] vs) : ∃ v, vs = [v] ∧ Rv K μ Hd x v := by
  cases h with
  | cons h1 t =>
    cases t
    exact ⟨_, rfl, h1⟩
theorem RvA.two {K : PySem.W.Frag} {μ : List Addr} {Hd : Hp} {x y : Vl} {vs : List V} (h : RvA K μ Hd [x, y] vs) : ∃ v w, vs = [v, w] ∧ Rv K μ Hd x v ∧ Rv K μ Hd y w := by
  cases h with
  | cons h1 t =>
    cases t with
    | cons h2 t =>
      cases t
      exact ⟨_, _, rfl, h1, h2⟩
theorem cm_fn1 {K : PySem.W.Frag} {f : Dt → Option Dt} (h : ∀ (H : Hp) (a d : Dt) (v : V), Rp K H a v → f a = some d → ∀ Q : VK, (∀ w, (∀ H', Rp K H' d w) → Q w H) → r [v] H Q) : CM K r (fn1 f) := fun {μ Hd H σ E xs vs z E'} R hx e Q q => by
  obtain ⟨x, a, d, rfl, e1, e2, rfl, rfl⟩ := fn1_some e
  obtain ⟨v, rfl, h1⟩ := hx.one
  exact h H a d v (see_ok R.wo h1 e1) e2 Q fun w hw => q μ Hd H w (Gr.refl μ Hd) R (hw Hd)
def fn2 (f : Dt → Dt → Option Dt) : List Vl → M Vl := fun xs E => match xs with
  | [x, y] => op2 f x y E
  | _ => none
theorem cm_fn2 {K : PySem.W.Frag} {f : Dt → Dt → Option Dt} (h : ∀ (H : Hp) (a b d : Dt) (v w : V), Rp K H a v → Rp K H b w → f a b = some d → ∀ Q : VK, (∀ u, (∀ H', Rp K H' d u) → Q u H) → r [v, w] H Q) : CM K r (fn2 f) := fun {μ Hd H σ E xs vs z E'} R hx e Q q => by
  unfold fn2 at e
  split at e
  · obtain ⟨a, b, d, e1, e2, e3, rfl, rfl⟩ := op2_some e
    obtain ⟨v, w, rfl, h1, h2⟩ := hx.two
    exact h H a b d v w (see_ok R.wo h1 e1) (see_ok R.wo h2 e2) e3 Q fun u hu => q μ Hd H u (Gr.refl μ Hd) R (hu Hd)
  · cases e
def lenD : Dt → Option Dt
  | .str s => if s.length ≤ sizeLine then some (.int (s.length : Int)) else none
  | .lst xs => some (.int (xs.length : Int))
  | .sq xs => some (.int (xs.length : Int))
  | .tup xs => some (.int (xs.length : Int))
  | _ => none
theorem cm_len {K : PySem.W.Frag} : CM K (rLenU K) (fn1 lenD) := cm_fn1 fun H a d v hv e Q q => by
  unfold lenD at e
  split at e
  · rename_i s
    split at e
    · rename_i hz
      cases e
      cases (show v = .str s from hv)
      exact ⟨_, s.length, rfl, ⟨hz, rfl⟩, q _ fun _ => rfl⟩
    · cases e
  · cases e
    obtain ⟨p, vs, rfl, h1, h2⟩ := hv
    exact ⟨_, vs.length, rfl, .inl ⟨vs, sq_of h1, rfl⟩, by rw [h2.len]; exact q _ fun _ => rfl⟩
  · cases e
    obtain ⟨p, vs, rfl, h1, h2⟩ := hv
    exact ⟨_, vs.length, rfl, .inl ⟨vs, h1, rfl⟩, by rw [h2.len]; exact q _ fun _ => rfl⟩
  · cases e
    obtain ⟨p, vs, rfl, h1, h2⟩ := hv
    exact ⟨_, vs.length, rfl, .inr ⟨vs, h1, rfl⟩, by rw [h2.len]; exact q _ fun _ => rfl⟩
  · cases e
theorem xlen (hm : X.mg "len" = none) (ha : Ax X (e :: es) tes mes) (hg : Gl X "len" := by rfl) (he : starEach (e :: es) X.env = (false, eval e X.env) :: starEach es X.env := by rfl) (hpl : (backTo pos (starEach es X.env)).any (·.1) = false := by rfl) :
    Ex_ X (.Call (.Name "len" p) (e :: es) [] pos) (tCB (rLenU X.K) tes) (bindM mes (fn1 lenD)) := xblt call_lenU cm_len hm PySem.boot_len ha hg (by decide) (by decide) he hpl
def absD : Dt → Option Dt
  | .int i => some (.int (if i < 0 then -i else i))
  | _ => none
theorem cm_abs {K : PySem.W.Frag} : CM K rAbsU (fn1 absD) := cm_fn1 fun H a d v hv e Q q => by
  unfold absD at e
  split at e
  · rename_i i
    cases e
    cases (show v = .int i from hv)
    exact ⟨i, rfl, q _ fun _ => rfl⟩
  · cases e
def intD : Dt → Option Dt
  | .int i => some (.int i)
  | .bl b => some (.int (if b then 1 else 0))
  | _ => none
theorem cm_int {K : PySem.W.Frag} : CM K rIntU (fn1 intD) := cm_fn1 fun H a d v hv e Q q => by
  unfold intD at e
  split at e
  · rename_i i
    cases e
    cases (show v = .int i from hv)
    exact .inl ⟨i, rfl, q _ fun _ => rfl⟩
  · rename_i b
    cases e
    cases (show v = .bl b from hv)
    exact .inr ⟨b, rfl, q _ fun _ => rfl⟩
  · cases e
abbrev minD := intF fun i j => some (.int (if j < i then j else i))
abbrev maxD := intF fun i j => some (.int (if j > i then j else i))
theorem cm_min2 {K : PySem.W.Frag} : CM K rMinU (fn2 minD) := cm_fn2 fun H a b d v w hv hw e Q q => by
  obtain ⟨i, j, rfl, rfl, e⟩ := intF_some e
  cases e
  cases (show v = .int i from hv)
  cases (show w = .int j from hw)
  exact ⟨i, j, rfl, q _ fun _ => rfl⟩
theorem cm_max2 {K : PySem.W.Frag} : CM K rMaxU (fn2 maxD) := cm_fn2 fun H a b d v w hv hw e Q q => by
  obtain ⟨i, j, rfl, rfl, e⟩ := intF_some e
  cases e
  cases (show v = .int i from hv)
  cases (show w = .int j from hw)
  exact ⟨i, j, rfl, q _ fun _ => rfl⟩
def blsD : List Dt → Option (List Bool)
  | [] => some []
  | .bl b :: ds => (blsD ds).map (b :: ·)
  | _ => none
theorem bls_ok {K : PySem.W.Frag} {H : Hp} : ∀ {ds : List Dt} {vs : List V} {bs : List Bool}, RpA K H ds vs → blsD ds = some bs → vs = bs.map V.bl
  | [], vs, bs, h, e => by
    cases e
    exact h
  | .bl b :: ds, vs, bs, h, e => by
    obtain ⟨x, r, rfl, h2, h3⟩ := h
    have e : (blsD ds).map (b :: ·) = some bs := e
    cases q : blsD ds with
    | none =>
      rw [q] at e
      cases e
    | some cs =>
      rw [q] at e
      cases e
      rw [show x = V.bl b from h2, bls_ok h3 q]
      rfl
  | .non :: _, _, _, _, e => by cases e
  | .int _ :: _, _, _, _, e => by cases e
  | .str _ :: _, _, _, _, e => by cases e
  | .lst _ :: _, _, _, _, e => by cases e
  | .sq _ :: _, _, _, _, e => by cases e
  | .tup _ :: _, _, _, _, e => by cases e
  | .obj _ _ _ :: _, _, _, _, e => by cases e
  | .dic _ _ :: _, _, _, _, e => by cases e
def allD : Dt → Option Dt
  | .lst xs => (blsD xs).map fun bs => .bl (bs.all fun b => b)
  | _ => none
def anyD : Dt → Option Dt
  | .lst xs => (blsD xs).map fun bs => .bl (bs.any fun b => b)
  | _ => none
theorem cm_all {K : PySem.W.Frag} : CM K (rAll K) (fn1 allD) := cm_fn1 fun H a d v hv e Q q => by
  unfold allD at e
  split at e
  · rename_i xs
    cases e1 : blsD xs with
    | none =>
      rw [e1] at e
      cases e
    | some bs =>
      rw [e1] at e
      cases e
      obtain ⟨p, vs, rfl, h1, h2⟩ := hv
      have := bls_ok h2 e1
      subst this
      exact ⟨p, bs, rfl, sq_of h1, q _ fun _ => rfl⟩
  · cases e
theorem cm_any {K : PySem.W.Frag} : CM K (rAny K) (fn1 anyD) := cm_fn1 fun H a d v hv e Q q => by
  unfold anyD at e
  split at e
  · rename_i xs
    cases e1 : blsD xs with
    | none =>
      rw [e1] at e
      cases e
    | some bs =>
      rw [e1] at e
      cases e
      obtain ⟨p, vs, rfl, h1, h2⟩ := hv
      have := bls_ok h2 e1
      subst this
      exact ⟨p, bs, rfl, sq_of h1, q _ fun _ => rfl⟩
  · cases e
/-- list(x), tuple(x): x a list or a tuple -/
def listF : List Vl → M Vl := fun xs E => match xs with
  | [x] => match (see E.ce x).bind itemsD with
    | some ds => newL ds E
    | none => none
  | _ => none
theorem see_items {K : PySem.W.Frag} {μ : List Addr} {Hd H : Hp} {ce : List Ce} {r : Vl} {v : V} {ds : List Dt} (w : Wo K μ Hd H ce) (hv : Rv K μ Hd r v) (h : (see ce r).bind itemsD = some ds) : ∃ a vs, v = .ref a ∧ (SqL K H a vs ∨ SqT K H a vs) ∧ RpA K Hd ds vs := by
  cases q : see ce r with
  | none =>
    rw [q] at h
    cases h
  | some d =>
    rw [q] at h
    cases d with
    | lst xs =>
      cases h
      obtain ⟨a, vs, h1, h2, h3⟩ := see_lst w hv q
      exact ⟨a, vs, h1, .inl (sq_of h2), h3⟩
    | sq xs =>
      cases h
      obtain ⟨a, vs, h1, h2, h3⟩ := see_sq w hv q
      exact ⟨a, vs, h1, .inl h2, h3⟩
    | tup xs =>
      cases h
      obtain ⟨a, vs, h1, h2, h3⟩ := see_tup w hv q
      exact ⟨a, vs, h1, .inr h2, h3⟩
    | _ => cases h
theorem cm_list {K : PySem.W.Frag} : CM K (rListU K) listF := fun {μ Hd H σ E xs vs z E'} R hx e Q q => by
  unfold listF at e
  split at e
  · rename_i x
    split at e
    · rename_i ds e1
      obtain ⟨v, rfl, h1⟩ := hx.one
      obtain ⟨a, us, rfl, h2, h3⟩ := see_items R.wo h1 e1
      refine ⟨a, us, rfl, h2, fun l hl => ?_⟩
      obtain ⟨g, R', r'⟩ := newL_ok R h3 e hl
      exact q _ _ _ _ g R' r'
    · cases e
  · cases e
def tupleF : List Vl → M Vl := fun xs E => match xs with
  | [x] => match (see E.ce x).bind itemsD with
    | some ds => some (.d (.tup ds), E)
    | none => none
  | _ => none
theorem cm_tuple {K : PySem.W.Frag} : CM K (rTupU K) tupleF := fun {μ Hd H σ E xs vs z E'} R hx e Q q => by
  unfold tupleF at e
  split at e
  · rename_i x
    split at e
    · rename_i ds e1
      cases e
      obtain ⟨v, rfl, h1⟩ := hx.one
      cases q1 : see E.ce x with
      | none =>
        rw [q1] at e1
        cases e1
      | some d =>
        rw [q1] at e1
        cases d with
        | lst ys =>
          cases e1
          obtain ⟨a, us, rfl, h2, h3⟩ := see_lst R.wo h1 q1
          refine ⟨a, us, rfl, .inl ⟨sq_of h2, fun l hl => ?_⟩⟩
          obtain ⟨g, R', r'⟩ := tup_ok R h3 hl
          exact q _ _ _ _ g R' r'
        | sq ys =>
          cases e1
          obtain ⟨a, us, rfl, h2, h3⟩ := see_sq R.wo h1 q1
          refine ⟨a, us, rfl, .inl ⟨h2, fun l hl => ?_⟩⟩
          obtain ⟨g, R', r'⟩ := tup_ok R h3 hl
          exact q _ _ _ _ g R' r'
        | tup ys =>
          cases e1
          obtain ⟨a, us, rfl, h2, h3⟩ := see_tup R.wo h1 q1
          have q2 := see_flat q1
          subst q2
          exact ⟨a, us, rfl, .inr ⟨h2, q μ Hd H _ (Gr.refl μ Hd) R h1⟩⟩
        | _ => cases e1
    · cases e
  · cases e
end
end Hk
/-! Hk5: comprehensions, a list's methods, isinstance. -/
namespace Hk
open PySem PySem.Spec PyProof.Rows L2 Evl

/-! ### slots forgotten and brought back -/
def wipeO (sl : List (Option Vl)) : List Nat → List (Option Vl)
  | [] => sl
  | v :: vs => (wipeO sl vs).set v none
def wipeE (vs : List Nat) (E : En) : En := ⟨wipeO E.sl vs, E.ce⟩
def bring (sl0 sl : List (Option Vl)) : List Nat → List (Option Vl)
  | [] => sl
  | v :: vs => (bring sl0 sl vs).set v (sl0[v]?.getD none)
section
variable {K : PySem.W.Frag} {μ : List Addr} {Hd H : Hp} {σ : L2.St}
theorem Sl.wipe {sl : List (Option Vl)} (h : Sl K μ Hd σ sl) : ∀ vs : List Nat, Sl K μ Hd (L2.wipe σ vs) (wipeO sl vs)
  | [] => h
  | v :: vs => (Sl.wipe h vs).wipe1 v
theorem wipeO_len (sl : List (Option Vl)) : ∀ vs : List Nat, (wipeO sl vs).length = sl.length
  | [] => rfl
  | v :: vs => by
    unfold wipeO
    rw [List.length_set, wipeO_len sl vs]
theorem bring_len (sl0 sl : List (Option Vl)) : ∀ vs : List Nat, (bring sl0 sl vs).length = sl.length
  | [] => rfl
  | v :: vs => by
    unfold bring
    rw [List.length_set, bring_len sl0 sl vs]
theorem wipe_out {i : Nat} : ∀ {vs : List Nat}, i ∉ vs → (L2.wipe σ vs)[i]? = σ[i]?
  | [], _ => rfl
  | v :: vs, h => by
    unfold L2.wipe
    rw [List.getElem?_set_ne (fun e => h (by rw [e]; exact List.mem_cons_self)), wipe_out fun m => h (List.mem_cons_of_mem _ m)]
theorem wipeO_out {sl : List (Option Vl)} {i : Nat} : ∀ {vs : List Nat}, i ∉ vs → (wipeO sl vs)[i]? = sl[i]?
  | [], _ => rfl
  | v :: vs, h => by
    unfold wipeO
    rw [List.getElem?_set_ne (fun e => h (by rw [e]; exact List.mem_cons_self)), wipeO_out fun m => h (List.mem_cons_of_mem _ m)]
theorem bring_out {sl0 sl : List (Option Vl)} {i : Nat} : ∀ {vs : List Nat}, i ∉ vs → (bring sl0 sl vs)[i]? = sl[i]?
  | [], _ => rfl
  | v :: vs, h => by
    unfold bring
    rw [List.getElem?_set_ne (fun e => h (by rw [e]; exact List.mem_cons_self)), bring_out fun m => h (List.mem_cons_of_mem _ m)]
theorem bring_in {sl0 sl : List (Option Vl)} {i : Nat} {r : Vl} : ∀ {vs : List Nat}, i ∈ vs → (bring sl0 sl vs)[i]? = some (some r) → sl0[i]? = some (some r)
  | v :: vs, hm, h => by
    unfold bring at h
    rw [List.getElem?_set] at h
    by_cases hv : v = i
    · subst hv
      rw [if_pos rfl] at h
      split at h
      · have h := Option.some.inj h
        cases q : sl0[v]? with
        | none =>
          rw [q] at h
          cases h
        | some o =>
          rw [q] at h
          have h : o = some r := h
          rw [h]
      · cases h
    · rw [if_neg hv] at h
      rcases List.mem_cons.mp hm with e | hm
      · exact absurd e.symm hv
      · exact bring_in hm h
theorem Sl.bring {sl0 sl : List (Option Vl)} {vs : List Nat} (h0 : Sl K μ Hd σ sl0) (h : Sl K μ Hd (L2.wipe σ vs) (wipeO sl vs)) : Sl K μ Hd σ (bring sl0 sl vs) := by
  refine ⟨by rw [bring_len, ← wipeO_len sl vs, ← h.1, L2.wipe_length], fun i r e => ?_⟩
  by_cases hm : i ∈ vs
  · exact h0.2 i r (bring_in hm e)
  · rw [bring_out hm] at e
    obtain ⟨v, h1, h2⟩ := h.2 i r (by rw [wipeO_out hm]; exact e)
    exact ⟨v, by rw [wipe_out hm] at h1; exact h1, h2⟩
end
/-- a target that stores to those slots alone -/
def GcM (K : PySem.W.Frag) (vs : List Nat) (g : TG) (f : Vl → En → Option En) : Prop := ∀ {μ : List Addr} {Hd H : Hp} {σ : L2.St} {E E' : En} {r : Vl} {v : V}, Rl K μ Hd H σ E → Rv K μ Hd r v → f r E = some E' → ∀ Q : L2.St → Hp → Prop,
  (∀ μ' Hd' H' σ', Gr μ Hd μ' Hd' → Rl K μ' Hd' H' σ' E' → L2.wipe σ' vs = L2.wipe σ vs → Q σ' H') → g v σ H Q
theorem wipe_set {σ : L2.St} {o : Option V} {i : Nat} : ∀ {vs : List Nat}, i ∈ vs → L2.wipe (σ.set i o) vs = L2.wipe σ vs
  | v :: vs, hm => by
    unfold L2.wipe
    by_cases hv : v = i
    · subst hv
      by_cases h2 : v ∈ vs
      · rw [wipe_set h2]
      · have : ∀ (us : List Nat), v ∉ us → (L2.wipe (σ.set v o) us) = (L2.wipe σ us).set v o := by
          intro us
          induction us with
          | nil => intro _; rfl
          | cons u us ih =>
            intro hu
            unfold L2.wipe
            rw [ih fun m => hu (List.mem_cons_of_mem _ m), List.set_comm _ _ (fun e => hu (by rw [e]; exact List.mem_cons_self))]
        rw [this vs h2, List.set_set]
    · rcases List.mem_cons.mp hm with e | hm
      · exact absurd e.symm hv
      · rw [wipe_set hm]
theorem gcm_name {K : PySem.W.Frag} {i : Nat} {vs : List Nat} (hi : i ∈ vs) : GcM K vs (gName i) (nameG i) := fun {μ Hd H σ E E' r v} R h e Q q => by
  cases e
  exact q μ Hd H _ (Gr.refl μ Hd) (R.setE i h) (wipe_set hi)
def GcsM (K : PySem.W.Frag) (us : List Nat) (t : TGs) (gs : List (Vl → En → Option En)) : Prop := ∀ {μ : List Addr} {Hd H : Hp} {σ : L2.St} {E E' : En} {ds : List Dt} {vs : List V}, Rl K μ Hd H σ E → RpA K Hd ds vs → gsL gs ds E = some E' → ∀ Q : L2.St → Hp → Prop,
  (∀ μ' Hd' H' σ', Gr μ Hd μ' Hd' → Rl K μ' Hd' H' σ' E' → L2.wipe σ' us = L2.wipe σ us → Q σ' H') → t vs σ H Q
theorem gcsm_nil {K : PySem.W.Frag} {us : List Nat} : GcsM K us gNil [] := fun {μ Hd H σ E E' ds vs} R h e Q q => by
  cases ds with
  | nil =>
    cases e
    exact ⟨h, q μ Hd H σ (Gr.refl μ Hd) R rfl⟩
  | cons d ds => cases e
theorem gcsm_cons {K : PySem.W.Frag} {us : List Nat} {t : TG} {u : TGs} {g : Vl → En → Option En} {gs : List (Vl → En → Option En)} (h1 : GcM K us t g) (h2 : GcsM K us u gs) : GcsM K us (gCons t u) (g :: gs) := fun {μ Hd H σ E E' ds vs} R h e Q q => by
  cases ds with
  | nil => cases e
  | cons d ds =>
    unfold gsL at e
    cases q1 : g (.d d) E with
    | none =>
      rw [q1] at e
      cases e
    | some E1 =>
      rw [q1] at e
      obtain ⟨x, r, rfl, p1, p2⟩ := h
      refine ⟨x, r, rfl, h1 R (r := .d d) p1 q1 _ fun μ1 Hd1 H1 σ1 g1 R1 w1 => ?_⟩
      exact h2 R1 (RpA.ex g1.ex _ _ p2) e Q fun μ2 Hd2 H2 σ2 g2 R2 w2 => q μ2 Hd2 H2 σ2 (g1.trans g2) R2 (w2.trans w1)
theorem gcm_tup {K : PySem.W.Frag} {us : List Nat} {t : TGs} {gs : List (Vl → En → Option En)} {n : Nat} (hn : gs.length = n) (h : GcsM K us t gs) : GcM K us (gTup K n t) (tupG gs) := fun {μ Hd H σ E E' r v} R hv e Q q => by
  unfold tupG at e
  split at e
  · rename_i ds
    obtain ⟨a, vs, rfl, h2, h3⟩ := hv
    exact ⟨a, vs, rfl, ex_t R.wo.ex h2, by rw [h3.len, gsL_len e, hn], h R h3 e Q q⟩
  · cases e
theorem wipe_wipe {σ : L2.St} {vs : List Nat} : L2.wipe (L2.wipe σ vs) vs = L2.wipe σ vs := by
  have h : ∀ us : List Nat, (∀ u ∈ us, u ∈ vs) → L2.wipe (L2.wipe σ us) vs = L2.wipe σ vs := by
    intro us
    induction us with
    | nil => intro _; rfl
    | cons u us ih =>
      intro hu
      show L2.wipe ((L2.wipe σ us).set u none) vs = _
      rw [wipe_set (hu u List.mem_cons_self)]
      exact ih fun x hx => hu x (List.mem_cons_of_mem _ hx)
  exact h vs fun _ h => h
/-! ### [e for x in xs if t] -/
def compL (own : List Nat) (k : Nat) (g : Vl → En → Option En) (t : M Bool) (m : M Vl) : List Dt → En → Option En
  | [], E => some E
  | d :: ds, E => match g (.d d) (wipeE own E) with
    | some E1 => match t E1 with
      | some (true, E2) => match bindM m fzM E2 with
        | some (x, E4) => match E4.ce[k]? with
          | some (.lst acc) => if acc.length < 100000 then compL own k g t m ds ⟨E4.sl, E4.ce.set k (.lst (acc ++ [x]))⟩ else none
          | _ => none
        | none => none
      | some (false, E2) => compL own k g t m ds E2
      | none => none
    | none => none
def compM (own : List Nat) (i : M (List Dt)) (g : Vl → En → Option En) (t : M Bool) (m : M Vl) : M Vl := fun E => match i E with
  | some (ds, E1) => match compL own E1.ce.length g t m ds ⟨E1.sl, E1.ce ++ [.lst []]⟩ with
    | some E2 => some (.c E1.ce.length, ⟨bring E1.sl E2.sl own, E2.ce⟩)
    | none => none
  | none => none
theorem em_comp {K : PySem.W.Frag} {own : List Nat} {wi : TI} {mi : M (List Dt)} {g : TG} {gm : Vl → En → Option En} {tt : TT} {mt : M Bool} {te : TE} {m : M Vl} (hi : IM K wi mi) (hg : GcM K own g gm) (ht : TM K tt mt) (he : EM K te m) : EM K (tLc wi g tt te own) (compM own mi gm mt m) := fun {μ Hd H σ E r E'} R e Q q => by
  unfold compM at e
  cases q1 : mi E with
  | none =>
    rw [q1] at e
    cases e
  | some p =>
    obtain ⟨ds, E1⟩ := p
    rw [q1] at e
    have e : (match compL own E1.ce.length gm mt m ds ⟨E1.sl, E1.ce ++ [.lst []]⟩ with
    | some E2 => some (Vl.c E1.ce.length, (⟨bring E1.sl E2.sl own, E2.ce⟩ : En))
    | none => none) = some (r, E') := e
    cases q2 : compL own E1.ce.length gm mt m ds ⟨E1.sl, E1.ce ++ [.lst []]⟩ with
    | none =>
      rw [q2] at e
      cases e
    | some E2 =>
      rw [q2] at e
      cases e
      refine hi R q1 _ fun μ1 Hd1 H1 J g1 R1 sv D hD => ?_
      obtain ⟨g2, R2, r2⟩ := R1.newC (xs := []) (vs := []) hD rfl
      have hk : (μ1 ++ [D])[E1.ce.length]? = some D := by
        rw [← R1.wo.len]
        simp
      refine ⟨fun i k H' => ∃ μ' Hd' E', Gr (μ1 ++ [D]) Hd1 μ' Hd' ∧ Rl K μ' Hd' H' (L2.wipe σ own) (wipeE own E') ∧ k = ds.length - i ∧ compL own E1.ce.length gm mt m (ds.drop i) E' = some E2,
        ⟨_, μ1 ++ [D], Hd1, ⟨E1.sl, E1.ce ++ [Ce.lst []]⟩, Gr.refl _ _, ⟨R2.wo, R2.sl.wipe own⟩, rfl, q2⟩, fun i k H' hw => ?_⟩
      obtain ⟨μ', Hd', E3, g3, R3, ek, q3⟩ := hw
      cases hd : ds.drop i with
      | nil =>
        rw [hd] at q3
        cases q3
        have hl : ds.length ≤ i := by
          have := congrArg List.length hd
          rw [List.length_drop] at this
          simp at this
          omega
        refine .inl ⟨(sv Hd' H' i g3.ex R3.wo.ex).1 hl, q μ' Hd' H' _ ((g1.trans g2).trans g3) ⟨R3.wo, ?_⟩ ⟨D, g3.pre _ _ hk, rfl⟩⟩
        exact Sl.bring ((R1.sl.gr g2).gr g3) R3.sl
      | cons x rest =>
        rw [hd] at q3
        obtain ⟨hx, hr⟩ := drop_cons hd
        have hl : i < ds.length := (List.getElem?_eq_some_iff.mp hx).1
        obtain ⟨s1, s2⟩ := sv.new R3 g3.ex hx
        refine .inr ⟨s1, fun H2 => ∃ m', m' < k ∧ ∃ μ2 Hd2 E4, Gr (μ1 ++ [D]) Hd1 μ2 Hd2 ∧ Rl K μ2 Hd2 H2 (L2.wipe σ own) (wipeE own E4) ∧ m' = ds.length - (i + 1) ∧ compL own E1.ce.length gm mt m (ds.drop (i + 1)) E4 = some E2, fun _ h => h, fun v H3 hy => ?_⟩
        obtain ⟨Hd4, g4, R4, r4⟩ := s2 v H3 hy
        unfold compL at q3
        cases q4 : gm (.d x) (wipeE own E3) with
        | none =>
          rw [q4] at q3
          cases q3
        | some E5 =>
          rw [q4] at q3
          refine hg R4 (r := .d x) r4 q4 _ fun μ5 Hd5 H5 σ5 g5 R5 w5 => ⟨w5.trans (by rw [wipe_wipe]), ?_⟩
          have gg := (g3.trans g4).trans g5
          cases q5 : mt E5 with
          | none =>
            simp only [q5] at q3
            cases q3
          | some p =>
            obtain ⟨b, E6⟩ := p
            simp only [q5] at q3
            refine ht R5 q5 _ fun μ6 Hd6 H6 g6 R6 => ?_
            cases b with
            | false =>
              show ∃ m', _
              refine ⟨ds.length - (i + 1), by omega, μ6, Hd6, E6, gg.trans g6, ⟨R6.wo, ?_⟩, rfl, by rw [hr]; exact q3⟩
              have := R6.sl.wipe own
              rw [w5, wipe_wipe] at this
              exact this
            | true =>
              show te σ5 H6 _
              cases q6 : bindM m fzM E6 with
              | none =>
                simp only [q6] at q3
                cases q3
              | some p =>
                obtain ⟨y, E7⟩ := p
                simp only [q6] at q3
                obtain ⟨z, E8, e8, e9⟩ := bindM_some q6
                cases q7 : E7.ce[E1.ce.length]? with
                | none =>
                  simp only [q7] at q3
                  cases q3
                | some c =>
                  cases c with
                  | dead =>
                    simp only [q7] at q3
                    cases q3
                  | pin o =>
                    simp only [q7] at q3
                    cases q3
                  | ins C ns ds =>
                    simp only [q7] at q3
                    cases q3
                  | dic ks ds =>
                    simp only [q7] at q3
                    cases q3
                  | dit ks ds =>
                    simp only [q7] at q3
                    cases q3
                  | lst acc =>
                    simp only [q7] at q3
                    split at q3
                    · rename_i hz
                      refine he R6 e8 _ fun μ7 Hd7 H7 w g7 R7 r7 => ?_
                      obtain ⟨Hd8, g8, R8, r8⟩ := fzM_ok R7 r7 e9
                      have gall := ((gg.trans g6).trans g7).trans g8
                      have hD8 := gall.pre _ _ hk
                      obtain ⟨c1, vs, c2, c3⟩ := R8.wo.lst q7 hD8
                      refine ⟨vs, c2, by rw [c3.len]; exact sz_lt hz, ds.length - (i + 1), by omega, μ7, Hd8, _, gall, ⟨?_, ?_⟩, rfl, by rw [hr]; exact q3⟩
                      · exact (R8.setC q7 hD8 (c3.app (RpA.one r8))).wo
                      · have := R8.sl.wipe own
                        rw [w5, wipe_wipe] at this
                        exact this
                    · cases q3
section
variable {X : Cx} {elt tg iter e a o : Expr} {es ifs : List Expr} {te ta to : TE} {m ma mo : M Vl} {tes : TA} {mes : M (List Vl)} {pos apos cpos : Pos} {name : Str}
structure Px (X : Cx) (ifs : List Expr) (tt : TT) (m : M Bool) : Prop where
  pt : PTs X ifs tt
  tm : TM X.K tt m
theorem pnil : Px X [] tYes (retM true) := ⟨pts_nil, fun {μ Hd H σ E b E'} R e Q q => by
  cases e
  exact q μ Hd H (Gr.refl μ Hd) R⟩
theorem pone {tt : TT} {mt : M Bool} (h : Tx X a tt mt) : Px X [a] tt mt := ⟨pts_one h.pt, h.tm⟩
structure Gc (X : Cx) (own : List Nat) (tg : Expr) (g : TG) (f : Vl → En → Option En) : Prop where
  pg : PG X tg g
  gm : GcM X.K own g f
theorem gcname (i : Nat) {x : Str} {vs : List Nat} (hm : i ∈ vs) (hN : X.N.Nodup) (hi : X.N[i]? = some x := by rfl) (hx : Loc X.env.scope x := by first | exact Or.inl rfl | exact Or.inr rfl) (hf : X.fn x = true ∨ X.env.scope.names.lookup x = some .local := by first | exact .inl rfl | exact .inr rfl) :
    Gc X vs (.Name x pos) (gName i) (nameG i) := ⟨pg_name hN hi hx hf, gcm_name hm⟩
theorem xcomp {scope : Scope} {own : List (Str × Nat)} {wi : TI} {mi : M (List Dt)} {g : TG} {gm : Vl → En → Option En} {tt : TT} {mt : M Bool} (hc : X.calm = true) (hN : X.N.Nodup) (hi : Ix_ X tg iter wi mi) (ok : BlkOk X.N X.env.scope scope own)
    (hg : ∀ (s : Shared) (H : Hp) (C : Addr) (cl : List (Str × Addr)) (fp : List Addr), Gc (X.blk s H scope (compEnvC scope cl C X.env) fp) (own.map (·.2)) tg g gm)
    (ht : ∀ (s : Shared) (H : Hp) (C : Addr) (cl : List (Str × Addr)) (fp : List Addr), Px (X.blk s H scope (compEnvC scope cl C X.env) fp) ifs tt mt)
    (he : ∀ (s : Shared) (H : Hp) (C : Addr) (cl : List (Str × Addr)) (fp : List Addr), Ex_ (X.blk s H scope (compEnvC scope cl C X.env) fp) elt te m) (hs : ∀ x, foldedSetIterable iter X.env x = pure x := by intro _; rfl) :
    Ex_ X (.ListComp elt [⟨tg, iter, ifs, 0⟩] scope pos) (tLc wi g tt te (own.map (·.2))) (compM (own.map (·.2)) mi gm mt m) :=
  ⟨pe_lc hc hN hi.pi ok (fun s H C cl fp => (hg s H C cl fp).pg) (fun s H C cl fp => (ht s H C cl fp).pt) (fun s H C cl fp => (he s H C cl fp).pe) hs,
   em_comp hi.im (hg X.s_0 X.H_0 0 [] []).gm (ht X.s_0 X.H_0 0 [] []).tm (he X.s_0 X.H_0 0 [] []).em⟩
/-- name = [..] -/
theorem ssetC (i : Nat) {y : Str} {py spos : Pos} {scope : Scope} {own : List (Str × Nat)} {wi : TI} {mi : M (List Dt)} {g : TG} {gm : Vl → En → Option En} {tt : TT} {mt : M Bool} (hc : X.calm = true) (hN : X.N.Nodup) (hy : X.N[i]? = some y) (hyl : X.env.scope.names.lookup y = some .local)
    (hsw : swapsWith (.ListComp elt [⟨tg, iter, ifs, 0⟩] scope pos) (some (.Name y py)) spos.line X.env = pure true) (hi : Ix_ X tg iter wi mi) (ok : BlkOk X.N X.env.scope scope own)
    (hg : ∀ (s : Shared) (H : Hp) (C : Addr) (cl : List (Str × Addr)) (fp : List Addr), Gc (X.blk s H scope (compEnvC scope cl C X.env) fp) (own.map (·.2)) tg g gm)
    (ht : ∀ (s : Shared) (H : Hp) (C : Addr) (cl : List (Str × Addr)) (fp : List Addr), Px (X.blk s H scope (compEnvC scope cl C X.env) fp) ifs tt mt)
    (he : ∀ (s : Shared) (H : Hp) (C : Addr) (cl : List (Str × Addr)) (fp : List Addr), Ex_ (X.blk s H scope (compEnvC scope cl C X.env) fp) elt te m) (hs : ∀ x, foldedSetIterable iter X.env x = pure x := by intro _; rfl) :
    Sx X (.Assign [.Name y py] (.ListComp elt [⟨tg, iter, ifs, 0⟩] scope pos) spos) (tAsg (tLc wi g tt te (own.map (·.2))) (gName i)) (setS i (compM (own.map (·.2)) mi gm mt m)) :=
  ⟨ps_setLc hc hN hy hyl hsw hi.pi ok (fun s H C cl fp => (hg s H C cl fp).pg) (fun s H C cl fp => (ht s H C cl fp).pt) (fun s H C cl fp => (he s H C cl fp).pe) hs,
   sm_set i (em_comp hi.im (hg X.s_0 X.H_0 0 [] []).gm (ht X.s_0 X.H_0 0 [] []).tm (he X.s_0 X.H_0 0 [] []).em)⟩
/-- a list is data from here on -/
def fzV (m : M Vl) : M Vl := bindM (bindM m fzM) fun d => retM (.d d)
theorem xfz (h : Ex_ X e te m) : Ex_ X e te (fzV m) := ⟨h.pe, fun {μ Hd H σ E r E'} R q Q k => by
  obtain ⟨d, E1, e1, e2⟩ := bindM_some q
  obtain ⟨r0, E2, e3, e4⟩ := bindM_some e1
  cases e2
  exact h.em R e3 _ fun μ1 Hd1 H1 v g1 R1 r1 => by
    obtain ⟨Hd2, g2, R2, r2⟩ := fzM_ok R1 r1 e4
    exact k μ1 Hd2 H1 v (g1.trans g2) R2 r2⟩
/-! ### methods of a list, of a text -/
def tyB (T : String) : Dt → Bool
  | .lst _ => T == "list"
  | .str _ => T == "str"
  | _ => false
theorem tyB_ok {K : PySem.W.Frag} {H : Hp} {T : String} {d : Dt} {v : V} (h : Rp K H d v) (e : tyB T d = true) : tyV K T v H := by
  unfold tyB at e
  split at e
  · obtain ⟨a, xs, rfl, h2, _⟩ := h
    exact .inl ⟨by simpa using e, xs, sq_of h2⟩
  · rename_i s
    cases (show v = .str s from h)
    exact (by simpa using e : T = "str")
  · cases e
def bmM (T : String) (mo : M Vl) (ma : M (List Vl)) (f : Vl → List Vl → M Vl) : M Vl := bindM mo fun x => fun E => match see E.ce x with
  | some d => if tyB T d = true then (bindM ma fun xs => f x xs) E else none
  | none => none
theorem em_bm {K : PySem.W.Frag} {T : String} {r : V → List V → Hp → VK → Prop} {f : Vl → List Vl → M Vl} {ta : TA} {ma : M (List Vl)} (ho : EM K to mo) (ha : AM K ta ma) (hf : MM K T r f) : EM K (tBM K T r to ta) (bmM T mo ma f) := fun {μ Hd H σ E z E'} R e Q q => by
  obtain ⟨x, E1, e1, e2⟩ := bindM_some e
  split at e2
  · rename_i d e3
    split at e2
    · rename_i e4
      obtain ⟨xs, E2, e5, e6⟩ := bindM_some e2
      refine ho R e1 _ fun μ1 Hd1 H1 v g1 R1 r1 => ⟨tyB_ok (see_ok R1.wo r1 e3) e4, ?_⟩
      refine ha R1 e5 _ fun μ2 Hd2 H2 vs g2 R2 r2 => ?_
      exact hf R2 (Rv.gr g2 r1) r2 e6 Q fun μ3 Hd3 H3 w g3 R3 r3 => q μ3 Hd3 H3 w ((g1.trans g2).trans g3) R3 r3
    · cases e2
  · cases e2
theorem em_bm0 {K : PySem.W.Frag} {T : String} {r : V → List V → Hp → VK → Prop} {f : Vl → List Vl → M Vl} (ho : EM K to mo) (hf : MM K T r f) : EM K (tBM0 K T r to) (bmM T mo (retM []) f) := fun {μ Hd H σ E z E'} R e Q q => by
  obtain ⟨x, E1, e1, e2⟩ := bindM_some e
  split at e2
  · rename_i d e3
    split at e2
    · rename_i e4
      refine ho R e1 _ fun μ1 Hd1 H1 v g1 R1 r1 => ⟨tyB_ok (see_ok R1.wo r1 e3) e4, ?_⟩
      exact hf R1 r1 .nil e2 Q fun μ3 Hd3 H3 w g3 R3 r3 => q μ3 Hd3 H3 w (g1.trans g3) R3 r3
    · cases e2
  · cases e2
/-- the list of a cell, changed -/
def onC (f : List Dt → Option (Dt × List Dt)) : Vl → M Vl
  | .c k => fun E => match E.ce[k]? with
    | some (.lst xs) => match f xs with
      | some (d, ys) => some (.d d, ⟨E.sl, E.ce.set k (.lst ys)⟩)
      | none => none
    | _ => none
  | _ => failM
theorem onC_some {f : List Dt → Option (Dt × List Dt)} {x z : Vl} {E E' : En} (h : onC f x E = some (z, E')) : ∃ k xs d ys, x = .c k ∧ E.ce[k]? = some (.lst xs) ∧ f xs = some (d, ys) ∧ z = .d d ∧ E' = ⟨E.sl, E.ce.set k (.lst ys)⟩ := by
  cases x with
  | d d => cases h
  | t rs => cases h
  | c k =>
    have h : (match E.ce[k]? with
      | some (.lst xs) => match f xs with
        | some (d, ys) => some (Vl.d d, (⟨E.sl, E.ce.set k (.lst ys)⟩ : En))
        | none => none
      | _ => none) = some (z, E') := h
    split at h
    · rename_i xs e1
      split at h
      · rename_i d ys e2
        cases h
        exact ⟨k, xs, d, ys, rfl, e1, e2, rfl, rfl⟩
      · cases h
    · cases h
def appF : Vl → List Vl → M Vl := fun x xs => match xs with
  | [r] => bindM (fzM r) fun d => onC (fun acc => if acc.length < 100000 then some (.non, acc ++ [d]) else none) x
  | _ => failM
theorem mm_append {K : PySem.W.Frag} : MM K "list" rAppend appF := fun {μ Hd H σ E x vx xs vs z E'} R hx hxs e Q q => by
  unfold appF at e
  split at e
  · rename_i r
    obtain ⟨d, E1, e1, e2⟩ := bindM_some e
    obtain ⟨v, rfl, hv⟩ := hxs.one
    obtain ⟨Hd1, g1, R1, r1⟩ := fzM_ok R hv e1
    obtain ⟨k, acc, d2, ys, rfl, e3, e4, rfl, rfl⟩ := onC_some e2
    split at e4
    · rename_i hz
      cases e4
      obtain ⟨a, ha, rfl⟩ := Rv.gr g1 hx
      obtain ⟨c1, us, c2, c3⟩ := R1.wo.lst e3 ha
      exact ⟨a, us, v, rfl, rfl, c2, by rw [c3.len]; exact sz_lt hz, q _ _ _ _ g1 (R1.setC e3 ha (c3.app (RpA.one r1))) rfl⟩
    · cases e4
  · cases e
def popF : Vl → List Vl → M Vl := fun x xs => match xs with
  | [] => onC (fun acc => match acc[acc.length - 1]? with
    | some d => some (d, acc.dropLast)
    | none => none) x
  | _ => failM
theorem mm_pop {K : PySem.W.Frag} : MM K "list" rPop popF := fun {μ Hd H σ E x vx xs vs z E'} R hx hxs e Q q => by
  unfold popF at e
  split at e
  · cases hxs
    obtain ⟨k, acc, d2, ys, rfl, e3, e4, rfl, rfl⟩ := onC_some e
    split at e4
    · rename_i d hd
      cases e4
      obtain ⟨a, ha, rfl⟩ := hx
      obtain ⟨c1, us, c2, c3⟩ := R.wo.lst e3 ha
      obtain ⟨v, v1, v2⟩ := RpA.at c3 hd
      exact ⟨a, us, v, rfl, rfl, c2, by rw [c3.len]; exact v1, q _ _ _ _ (Gr.refl μ Hd) (R.setC e3 ha c3.dropLast) v2⟩
    · cases e4
  · cases e
def clearF : Vl → List Vl → M Vl := fun x xs => match xs with
  | [] => onC (fun acc => some (.non, [])) x
  | _ => failM
theorem mm_clear {K : PySem.W.Frag} : MM K "list" rClear clearF := fun {μ Hd H σ E x vx xs vs z E'} R hx hxs e Q q => by
  unfold clearF at e
  split at e
  · cases hxs
    obtain ⟨k, acc, d2, ys, rfl, e3, e4, rfl, rfl⟩ := onC_some e
    cases e4
    obtain ⟨a, ha, rfl⟩ := hx
    obtain ⟨c1, us, c2, c3⟩ := R.wo.lst e3 ha
    exact ⟨a, us, rfl, rfl, c2, q _ _ _ _ (Gr.refl μ Hd) (R.setC e3 ha (show RpA K Hd [] [] from rfl)) rfl⟩
  · cases e
/-- xs.extend(ys), ys a list -/
def extF : Vl → List Vl → M Vl := fun x xs => match xs with
  | [r] => fun E => match see E.ce r with
    | some (.lst ds) => onC (fun acc => if acc.length + ds.length ≤ 100000 then some (.non, acc ++ ds) else none) x E
    | _ => none
  | _ => failM
theorem mm_extend {K : PySem.W.Frag} : MM K "list" rExtend extF := fun {μ Hd H σ E x vx xs vs z E'} R hx hxs e Q q => by
  unfold extF at e
  split at e
  · rename_i r
    split at e
    · rename_i ds e1
      obtain ⟨v, rfl, hv⟩ := hxs.one
      obtain ⟨b, us, rfl, h2, h3⟩ := see_lst R.wo hv e1
      obtain ⟨k, acc, d2, ys, rfl, e3, e4, rfl, rfl⟩ := onC_some e
      split at e4
      · rename_i hz
        cases e4
        obtain ⟨a, ha, rfl⟩ := hx
        obtain ⟨c1, ws, c2, c3⟩ := R.wo.lst e3 ha
        exact ⟨a, b, ws, us, rfl, rfl, c2, h2, by rw [c3.len, h3.len]; exact sz_of hz, q _ _ _ _ (Gr.refl μ Hd) (R.setC e3 ha (c3.app h3)) rfl⟩
      · cases e4
    · cases e
  · cases e
/-- o[i] = e, o a cell's list -/
def setIS (m mo mi : M Vl) : En → Option Rs := fun E => match (bindM m fun r => bindM mo fun o => bindM mi fun i => match i with
    | .d (.int j) => bindM (fzM r) fun d => onC (fun acc => (ixN acc.length j).map fun n => (.non, acc.set n d)) o
    | _ => failM) E with
  | some (_, E1) => some (.nx E1)
  | none => none
theorem ssetI {i : Expr} {ti : TE} {mi : M Vl} {p3 : Pos} (h : Ex_ X e te m) (ho : Ex_ X o to mo) (hi : Ex_ X i ti mi) (pg : PG X (.Subscript o i p3) (gSub to ti rSetL))
    (hs : swapsWithSole [.Subscript o i p3] e pos.line X.env = pure false := by rfl) (hw : swappedStores [.Subscript o i p3] e X.env = pure none := by rfl) (h1 : (assignEach [.Subscript o i p3] X.env).map (·.2) = [assign (.Subscript o i p3) X.env] := by rfl) :
    Sx X (.Assign [.Subscript o i p3] e pos) (tAsg te (gSub to ti rSetL)) (setIS m mo mi) := ⟨ps_asg h.pe pg hs hw h1, fun {μ Hd H σ E R} r q D d => by
  unfold setIS at q
  split at q
  · rename_i u E1 e1
    cases q
    obtain ⟨x, E2, e2, e1⟩ := bindM_some e1
    obtain ⟨y, E3, e3, e1⟩ := bindM_some e1
    obtain ⟨z, E4, e4, e1⟩ := bindM_some e1
    refine h.em r e2 _ fun μ1 Hd1 H1 v g1 R1 r1 => ?_
    refine ho.em R1 e3 _ fun μ2 Hd2 H2 w g2 R2 r2 => ?_
    refine hi.em R2 e4 _ fun μ3 Hd3 H3 w3 g3 R3 r3 => ?_
    split at e1
    · rename_i j
      obtain ⟨dd, E5, e5, e1⟩ := bindM_some e1
      obtain ⟨Hd4, g4, R4, r4⟩ := fzM_ok R3 (Rv.gr (g2.trans g3) r1) e5
      obtain ⟨k, acc, d2, ys, rfl, e6, e7, rfl, rfl⟩ := onC_some e1
      cases q2 : ixN acc.length j with
      | none =>
        rw [q2] at e7
        cases e7
      | some n =>
        rw [q2] at e7
        cases e7
        obtain ⟨a, ha, rfl⟩ := Rv.gr (g3.trans g4) r2
        obtain ⟨c1, us, c2, c3⟩ := R4.wo.lst e6 ha
        exact ⟨a, us, j, n, rfl, r3, c2, by rw [c3.len]; exact q2, d _ _ _ _ (((g1.trans g2).trans g3).trans g4) (R4.setC e6 ha (c3.set n r4))⟩
    · cases e1
  · cases q⟩
end
end Hk
/-! Hk6: calls of own defs, isinstance, short rules by name. -/
namespace Hk
open PySem PySem.Spec PyProof.Rows L2 Evl
section
variable {K : PySem.W.Frag}
theorem om_sub : OM K (rI0 fun i j => .int (i - j)) (op2 subF) := om_intI0
theorem om_mod : OM K (rI (fun _ j => j ≠ 0) fun i j => .int (i.fmod j)) (op2 modF) := om_intI
theorem om_fdiv : OM K (rI CDivN fun i j => .int (i.fdiv j)) (op2 fdivF) := om_intI
theorem om_pow : OM K (rI CPow fun i j => .int (i ^ j.toNat)) (op2 powF) := om_intI
theorem om_lt : OM K (rI0 fun i j => .bl (decide (i < j))) (op2 ltF) := om_intB
theorem om_le : OM K (rI0 fun i j => .bl (decide (i ≤ j))) (op2 leF) := om_intB
theorem om_gt : OM K (rI0 fun i j => .bl (decide (j < i))) (op2 gtF) := om_intB
theorem om_ge : OM K (rI0 fun i j => .bl (decide (j ≤ i))) (op2 geF) := om_intB
theorem op2_bl {f : Dt → Dt → Option Dt} (h : ∀ a b d, f a b = some d → ∃ k, d = .bl k) : ∀ x y E z E', op2 f x y E = some (z, E') → ∃ k, z = .d (.bl k) := fun x y E z E' e => by
  obtain ⟨a, b, d, _, _, e3, rfl, _⟩ := op2_some e
  obtain ⟨k, rfl⟩ := h a b d e3
  exact ⟨k, rfl⟩
theorem intB_bl {f : Int → Int → Bool} : ∀ a b d, intF (fun i j => some (Dt.bl (f i j))) a b = some d → ∃ k, d = .bl k := fun a b d e => by
  obtain ⟨i, j, _, _, e⟩ := intF_some e
  cases e
  exact ⟨_, rfl⟩
theorem le_bl : ∀ x y E z E', op2 leF x y E = some (z, E') → ∃ k, z = .d (.bl k) := op2_bl intB_bl
theorem lt_bl : ∀ x y E z E', op2 ltF x y E = some (z, E') → ∃ k, z = .d (.bl k) := op2_bl intB_bl

/-! ### isinstance -/
def tyN : Dt → Option String
  | .non => some "NoneType"
  | .bl _ => some "bool"
  | .int _ => some "int"
  | .str _ => some "str"
  | .lst _ => some "list"
  | .tup _ => some "tuple"
  | .dic _ _ => some "dict"
  | _ => none
theorem tyN_ok {H : Hp} {d : Dt} {v : V} {n : String} (h : Rp K H d v) (e : tyN d = some n) : TyX K H v (.type n) := by
  cases d with
  | non =>
    cases e
    cases (show v = .non from h)
    exact .base .non
  | bl b =>
    cases e
    cases (show v = .bl b from h)
    exact .base (.bl b)
  | int b =>
    cases e
    cases (show v = .int b from h)
    exact .base (.int b)
  | str b =>
    cases e
    cases (show v = .str b from h)
    exact .base (.str b)
  | lst xs =>
    cases e
    obtain ⟨a, vs, rfl, h2, _⟩ := h
    exact .base (.lst h2)
  | tup xs =>
    cases e
    obtain ⟨a, vs, rfl, h2, _⟩ := h
    rcases h2 with (h2 | ⟨o, h2⟩) | ⟨o, its, n, h2, h3, _⟩
    · exact .base (.tup h2)
    · exact .fTuple h2
    · exact .kTuple h2 h3
  | dic ks ds =>
    cases e
    obtain ⟨a, kvs, rfl, h2, _⟩ := h
    exact .base (.dK h2)
  | sq xs => cases e
  | obj _ _ _ => cases e
  | cls _ => cases e
def isiF (n : String) : Dt → Option Dt := fun d => match tyN d with
  | some t => (kitB t n).map .bl
  | none => none
def isi2F (n1 n2 : String) : Dt → Option Dt := fun d => match tyN d with
  | some t => match kitB t n1, kitB t n2 with
    | some a, some b => some (.bl (a || b))
    | _, _ => none
  | none => none
def seeF (f : Dt → Option Dt) (x : Vl) : M Vl := fun E => match see E.ce x with
  | some a => (f a).map fun d => (.d d, E)
  | none => none
theorem seeF_some {f : Dt → Option Dt} {x z : Vl} {E E' : En} (h : seeF f x E = some (z, E')) : ∃ a d, see E.ce x = some a ∧ f a = some d ∧ z = .d d ∧ E' = E := by
  unfold seeF at h
  cases e1 : see E.ce x with
  | none =>
    rw [e1] at h
    cases h
  | some a =>
    rw [e1] at h
    cases q : f a with
    | none => simp [q] at h
    | some d =>
      simp only [q, Option.map_some, Option.some.injEq, Prod.mk.injEq] at h
      obtain ⟨rfl, rfl⟩ := h
      exact ⟨a, d, rfl, q, rfl, rfl⟩
theorem em_isi {ta : TE} {ma : M Vl} {n : String} (ha : EM K ta ma) : EM K (tCB (rIsi K) (tCons ta (tCons (tC (.ty n)) tNil))) (bindM ma (seeF (isiF n))) := fun {μ Hd H σ E r E'} R e Q q => by
  obtain ⟨x, E1, e1, e2⟩ := bindM_some e
  obtain ⟨d, z, e3, e4, rfl, rfl⟩ := seeF_some e2
  refine ha R e1 _ fun μ1 Hd1 H1 v g1 R1 r1 => ?_
  unfold isiF at e4
  cases e5 : tyN d with
  | none =>
    rw [e5] at e4
    cases e4
  | some t =>
    rw [e5] at e4
    have e4 : (kitB t n).map Dt.bl = some z := e4
    cases e6 : kitB t n with
    | none =>
      rw [e6] at e4
      cases e4
    | some b =>
      rw [e6] at e4
      cases e4
      exact ⟨v, .ty n, .type t, .type n, b, rfl, .ty n, tyN_ok (see_ok R1.wo r1 e3) e5, kit_ty e6, q _ _ _ _ g1 R1 rfl⟩
theorem em_isi2 {ta : TE} {ma : M Vl} {n1 n2 : String} (ha : EM K ta ma) : EM K (tCB (rIsiT K) (tCons ta (tCons (tTup (tCons (tC (.ty n1)) (tCons (tC (.ty n2)) tNil))) tNil))) (bindM ma (seeF (isi2F n1 n2))) := fun {μ Hd H σ E r E'} R e Q q => by
  obtain ⟨x, E1, e1, e2⟩ := bindM_some e
  obtain ⟨d, z, e3, e4, rfl, rfl⟩ := seeF_some e2
  refine ha R e1 _ fun μ1 Hd1 H1 v g1 R1 r1 => ?_
  unfold isi2F at e4
  cases e5 : tyN d with
  | none =>
    rw [e5] at e4
    cases e4
  | some t =>
    rw [e5] at e4
    have e4 : (match kitB t n1, kitB t n2 with
      | some a, some b => some (Dt.bl (a || b))
      | _, _ => none) = some z := e4
    split at e4
    · rename_i a b e6 e7
      cases e4
      refine ⟨by show 2 ≤ sizeLine; exact sz_of (by decide), fun p hp => ?_⟩
      obtain ⟨g2, R2⟩ := R1.newD (o := .tup [.ty n1, .ty n2]) hp
      refine ⟨v, p, [.ty n1, .ty n2], .type t, [.type n1, .type n2], a || b, rfl, upd_same, .cons (.ty n1) (.cons (.ty n2) .nil), tyN_ok (Rp.ex (Ex.new hp) _ _ (see_ok R1.wo r1 e3)) e5, ?_, q _ _ _ _ (g1.trans g2) R2 rfl⟩
      exact kitAny_cons (kit_ty e6) (fun ha => kitAny_cons (kit_ty e7) (fun hb => by rw [ha, hb]; exact kitAny_nil) (fun hb => by rw [ha, hb]; rfl)) (fun ha => by rw [ha]; rfl)
    · cases e4
end
section
variable {X : Cx} {a e : Expr} {es : List Expr} {ta te : TE} {ma m : M Vl} {tes : TA} {mes : M (List Vl)} {pos p p2 p3 : Pos}
theorem xisi {x : Str} {n : String} (hm : X.mg "isinstance" = none) (ha : Ex_ X a ta ma) (hmx : X.mg x = none) (hv : bootBuiltins x = some (.type n)) (hg : Gl X "isinstance" := by rfl) (hgx : Gl X x := by rfl) (hn : x ≠ "__name__" := by decide) (hdb : (x == ("__debug__" : Str)) = false := by decide) (hcd : (x == ("__classdict__" : Str)) = false := by decide)
    (h1 : starEach [a, .Name x p2] X.env = (false, eval a X.env) :: starEach [.Name x p2] X.env := by rfl) (h2 : starEach [.Name x p2] X.env = [(false, eval (.Name x p2) X.env)] := by rfl) (h3 : (backTo pos (starEach [.Name x p2] X.env)).any (·.1) = false := by rfl) :
    Ex_ X (.Call (.Name "isinstance" p) [a, .Name x p2] [] pos) (tCB (rIsi X.K) (tCons ta (tCons (tC (.ty n)) tNil))) (bindM ma (seeF (isiF n))) :=
  ⟨pe_callB call_isi hg hm (by decide +kernel) (pa_cons ha.pe (pa_cons (pe_bltn hgx hmx hv (v := .ty n) rfl hn hdb) pa_nil h2) h1) (by decide) (by decide) h1 h3, em_isi ha.em⟩
/-- a call of a def -/
theorem xcall {x : Str} {n k : Nat} {f : Addr} {fd : FuncData} {ps : List Str} {G : Fn} {CX : CXT} {E : XK} (F : FnOk X.prog X.w X.K X.mg X.base CX k f fd ps (spM X.K n G)) (hr : Room k X.A) (hm : X.mg x = some (.ref f)) (hk : PySem.W.keepIn X.K (.ref f) = true) (hb : Binds X.K fd ps [])
    (ha : Ax X (e :: es) tes mes) (hn : ∀ (E : En) (rs : List Vl) (E' : En), mes E = some (rs, E') → rs.length = n) (hx : Passes CX X E) (hg : Gl X x := by rfl) (hdb : (x == ("__debug__" : Str)) = false := by decide)
    (he : starEach (e :: es) X.env = (false, eval e X.env) :: starEach es X.env := by rfl) (hpl : (backTo pos (starEach es X.env)).any (·.1) = false := by rfl) :
    Ex_ X (.Call (.Name x p) (e :: es) [] pos) (tCall (spM X.K n G) [] E tes) (callM G mes) := ⟨pe_call F hr hg hm hk hb .nil hx ha.pa hdb he hpl, em_call hn ha.am⟩
theorem xcall0 {x : Str} {k : Nat} {f : Addr} {fd : FuncData} {G : Fn} {CX : CXT} {E : XK} (F : FnOk X.prog X.w X.K X.mg X.base CX k f fd [] (spM X.K 0 G)) (hr : Room k X.A) (hm : X.mg x = some (.ref f)) (hk : PySem.W.keepIn X.K (.ref f) = true) (hb : Binds X.K fd [] [])
    (hx : Passes CX X E) (hg : Gl X x := by rfl) (hdb : (x == ("__debug__" : Str)) = false := by decide) :
    Ex_ X (.Call (.Name x p) [] [] pos) (tCall (spM X.K 0 G) [] E tNil) (callM G (retM [])) := ⟨pe_call0 F hr hg hm hk hb .nil hx hdb, em_call (nil_len rfl) anil.am⟩
/-- o.m(e, ..), o a list -/
theorem xlm {o : Expr} {to : TE} {mo : M Vl} {name : Str} {id : String} {r : V → List V → Hp → VK → Prop} {f : Vl → List Vl → M Vl} {apos cpos : Pos} (slot : Slot "list" name id) (hty : typeOf (.builtin id) = pure (.type "method_descriptor")) (hm : MtR X id r) (hf : MM X.K "list" r f) (ho : Ex_ X o to mo) (ha : Ax X (e :: es) tes mes)
    (hbase : attributeBase o name X.env (eval o X.env) = eval o X.env := by rfl)
    (hfew : ((backTo cpos (starEach (e :: es) X.env)).all (fun x => !x.1) && (backToKw cpos (keywordEach [] X.env)).all (fun x => x.1.isSome)
      && decide ((e :: es).length + ([] : List Keyword).length + (if ([] : List Keyword).isEmpty then 0 else 1) < 30)) = true := by rfl)
    (hline : (apos.endLine == cpos.line) = true := by rfl) (hs : starEach (e :: es) X.env = (false, eval e X.env) :: starEach es X.env := by rfl) (hplain : (backTo cpos (starEach es X.env)).any (·.1) = false := by rfl) :
    Ex_ X (.Call (.Attribute o name apos) (e :: es) [] cpos) (tBM X.K "list" r to tes) (bmM "list" mo mes f) := ⟨pe_bm PySem.F.plainAttrs_list slot hty hm ho.pe ha.pa hbase hfew hline hs hplain, em_bm ho.em ha.am hf⟩
theorem xlm0 {o : Expr} {to : TE} {mo : M Vl} {name : Str} {id : String} {r : V → List V → Hp → VK → Prop} {f : Vl → List Vl → M Vl} {apos cpos : Pos} (slot : Slot "list" name id) (hty : typeOf (.builtin id) = pure (.type "method_descriptor")) (hm : MtR X id r) (hf : MM X.K "list" r f) (ho : Ex_ X o to mo)
    (hbase : attributeBase o name X.env (eval o X.env) = eval o X.env := by rfl) (hline : (apos.endLine == cpos.line) = true := by rfl) :
    Ex_ X (.Call (.Attribute o name apos) [] [] cpos) (tBM0 X.K "list" r to) (bmM "list" mo (retM []) f) := ⟨pe_bm0 PySem.F.plainAttrs_list slot hty hm ho.pe hbase hline, em_bm0 ho.em hf⟩
/-- -n, n written -/
def negM (m : M Vl) : M Vl := bindM m fun r => match r with
  | .d (.int i) => retM (.d (.int (-i)))
  | _ => failM
theorem xneg (ha : Ex_ X a ta ma) : Ex_ X (.UnaryOp .USub a pos) (tUn (rU fun i => .int (-i)) ta) (negM ma) := ⟨pe_un un_neg ha.pe, fun {μ Hd H σ E r E'} R q Q k => by
  obtain ⟨x, E1, e1, e2⟩ := bindM_some q
  split at e2
  · rename_i i
    cases e2
    exact ha.em R e1 _ fun μ1 Hd1 H1 v g1 R1 r1 => ⟨i, r1, k _ _ _ _ g1 R1 rfl⟩
  · cases e2⟩
theorem re_te {te' : TE} (h : Ex_ X e te m) (q : te = te') : Ex_ X e te' m := q ▸ h
theorem re_tt {ifs : List Expr} {tt tt' : TT} {mt : M Bool} (h : Px X ifs tt mt) (q : tt = tt') : Px X ifs tt' mt := q ▸ h
theorem body_ok {st : List Stmt} {ts : TS} {m : En → Option Rs} {n nl : Nat} {N : List Str} {vs : List V} {H : Hp} {Q : VK} {E : XK} (B : Bx X st ts m) (hN : N.length = n + nl) (h : spM X.K n (fnOf nl m) vs H Q E) :
    ∃ t, PSs X st t ∧ t { nx := fun _ H' => Q .non H', rt := Q } (L2.start N vs) H := ⟨ts, B.ps, run_fn B.sm hN h⟩
end
end Hk
/-! Hk7: reckoning with what a def does, from the left: one rule a piece. -/
namespace Hk
open PySem PySem.Spec PyProof.Rows L2 Evl
section
variable {α β : Type} {E E1 E2 E3 : En} {a : α} {b : β} {r x y z : Vl} {d e d1 d2 : Dt} {k : Bool} {R Q : Rs} {rs : List Vl}
theorem get_new {α : Type} (l : List α) (x : α) : (l ++ [x])[l.length]? = some x := by simp
theorem set_new {α : Type} (l : List α) (x y : α) : (l ++ [x]).set l.length y = l ++ [y] := by
  rw [List.set_append_right _ _ (Nat.le_refl _)]
  simp
theorem get_set {α : Type} {l : List α} {k : Nat} {x y : α} (h : l[k]? = some y) : (l.set k x)[k]? = some x := by
  rw [List.getElem?_set, if_pos rfl, if_pos (List.getElem?_eq_some_iff.mp h).1]
theorem zv_ret {a : α} : retM a E = some (a, E) := rfl
theorem zv_bind {m : M α} {f : α → M β} (h : m E = some (a, E1)) (g : f a E1 = some (b, E2)) : bindM m f E = some (b, E2) := by
  unfold bindM
  rw [h]
  exact g
theorem zv_var {i : Nat} {sl : List (Option Vl)} {ce : List Ce} (h : sl[i]? = some (some r)) : vM i ⟨sl, ce⟩ = some (r, ⟨sl, ce⟩) := by
  unfold vM
  rw [show (En.mk sl ce).sl = sl from rfl, h]
theorem zv_cons {m : M Vl} {ms : M (List Vl)} (h : m E = some (x, E1)) (g : ms E1 = some (rs, E2)) : consM m ms E = some (x :: rs, E2) := zv_bind h (zv_bind g zv_ret)
theorem zv_op2 {f : Dt → Dt → Option Dt} (h1 : see E.ce x = some d1) (h2 : see E.ce y = some d2) (h : f d1 d2 = some d) : op2 f x y E = some (.d d, E) := by
  unfold op2
  rw [h1, h2]
  show (f d1 d2).map _ = _
  rw [h]
  rfl
theorem zv_seeD {ce : List Ce} : see ce (.d d) = some d := rfl
theorem zv_seeX {ce : List Ce} {k : Nat} {c : Ce} (h : ce[k]? = some c) (hd : dataC c = some d) : see ce (.c k) = some d := by
  show (ce[k]?).bind dataC = _
  rw [h]
  exact hd
theorem zv_seeC {ce : List Ce} {k : Nat} {xs : List Dt} (h : ce[k]? = some (.lst xs)) : see ce (.c k) = some (.lst xs) := zv_seeX h rfl
theorem zv_fzD : fzM (.d d) E = some (d, E) := rfl
theorem zv_fzX {k : Nat} {c : Ce} {d : Dt} {sl : List (Option Vl)} {ce : List Ce} (h : ce[k]? = some c) (hd : dataC c = some d) : fzM (.c k) ⟨sl, ce⟩ = some (d, ⟨sl.map (Option.map (frzV k d)), ce.set k .dead⟩) := by
  show (match (ce[k]?).bind dataC with
    | some d => some (d, frz k d ⟨sl, ce⟩)
    | none => none) = _
  rw [h]
  show (match dataC c with
    | some d => some (d, frz k d ⟨sl, ce⟩)
    | none => none) = _
  rw [hd]
  rfl
theorem zv_fzC {k : Nat} {xs : List Dt} {sl : List (Option Vl)} {ce : List Ce} (h : ce[k]? = some (.lst xs)) : fzM (.c k) ⟨sl, ce⟩ = some (.lst xs, ⟨sl.map (Option.map (frzV k (.lst xs))), ce.set k .dead⟩) := zv_fzX h rfl
theorem zv_fzV {m : M Vl} (h : m E = some (x, E1)) (g : fzM x E1 = some (d, E2)) : fzV m E = some (.d d, E2) := zv_bind (zv_bind h g) zv_ret
theorem zv_ix (h1 : see E.ce x = some d1) (h2 : see E.ce y = some d2) (h : ixD d1 d2 = some d) : ixF x y E = some (.d d, E) := by
  unfold ixF
  rw [h1, h2]
  show (ixD d1 d2).map _ = _
  rw [h]
  rfl
theorem zv_fn1 {f : Dt → Option Dt} (h1 : see E.ce x = some d1) (h : f d1 = some d) : fn1 f [x] E = some (.d d, E) := by
  show (match see E.ce x with
    | some a => (f a).map fun d => (Vl.d d, E)
    | none => none) = _
  rw [h1]
  show (f d1).map _ = _
  rw [h]
  rfl
theorem zv_fn2 {f : Dt → Dt → Option Dt} (h : op2 f x y E = some (z, E1)) : fn2 f [x, y] E = some (z, E1) := h
theorem zv_see {f : Dt → Option Dt} (h1 : see E.ce x = some d1) (h : f d1 = some d) : seeF f x E = some (.d d, E) := by
  unfold seeF
  rw [h1]
  show (f d1).map _ = _
  rw [h]
  rfl
theorem zv_bool : boolM (.d (.bl k)) E = some (k, E) := rfl
theorem zv_tru (h1 : see E.ce x = some d) (h : truD d = some k) : truM x E = some (k, E) := by
  unfold truM
  rw [h1]
  show (truD d).map _ = _
  rw [h]
  rfl
theorem zv_fzA0 : fzA [] E = some ([], E) := rfl
theorem zv_fzA1 {ds : List Dt} (h : fzM x E = some (d, E1)) (g : fzA rs E1 = some (ds, E2)) : fzA (x :: rs) E = some (d :: ds, E2) := zv_bind h (zv_bind g zv_ret)
theorem zv_newL {xs : List Dt} {sl : List (Option Vl)} {ce : List Ce} : newL xs ⟨sl, ce⟩ = some (.c ce.length, ⟨sl, ce ++ [.lst xs]⟩) := rfl
theorem zv_tup {m : M (List Vl)} {ds : List Dt} (h : m E = some (rs, E1)) (hl : rs.length ≤ 100000) (g : fzA rs E1 = some (ds, E2)) : tupM m E = some (.d (.tup ds), E2) := zv_bind h (by rw [if_pos hl]; exact zv_bind g zv_ret)
theorem zv_lst {m : M (List Vl)} {ds : List Dt} (h : m E = some (rs, E1)) (hl : rs.length ≤ 100000) (g : fzA rs E1 = some (ds, E2)) (n : newL ds E2 = some (z, E3)) : lstM m E = some (z, E3) := zv_bind h (by rw [if_pos hl]; exact zv_bind g n)
theorem zv_andT {m n : M Bool} (h : m E = some (k, E1)) (hk : k = true) {b : Bool} (g : n E1 = some (b, E2)) : andM m n E = some (b, E2) := zv_bind h (by rw [if_pos hk]; exact g)
theorem zv_andF {m n : M Bool} (h : m E = some (k, E1)) (hk : k = false) : andM m n E = some (false, E1) := zv_bind h (by rw [hk]; rfl)
theorem zv_orF {m n : M Bool} (h : m E = some (k, E1)) (hk : k = false) {b : Bool} (g : n E1 = some (b, E2)) : orM m n E = some (b, E2) := zv_bind h (by rw [hk]; exact g)
theorem zv_orT {m n : M Bool} (h : m E = some (k, E1)) (hk : k = true) : orM m n E = some (true, E1) := zv_bind h (by rw [hk]; rfl)
theorem zv_not {m : M Bool} (h : m E = some (k, E1)) : notM m E = some (!k, E1) := zv_bind h zv_ret
theorem zv_ifT {t : M Bool} {m n : M α} (h : t E = some (k, E1)) (hk : k = true) (g : m E1 = some (a, E2)) : ifM t m n E = some (a, E2) := zv_bind h (by rw [if_pos hk]; exact g)
theorem zv_ifF {t : M Bool} {m n : M α} (h : t E = some (k, E1)) (hk : k = false) (g : n E1 = some (a, E2)) : ifM t m n E = some (a, E2) := zv_bind h (by rw [hk]; exact g)
theorem zv_notV {m : M Vl} (h : bindM m boolM E = some (k, E1)) : notV m E = some (.d (.bl (!k)), E1) := zv_bind h zv_ret
theorem zv_neg {m : M Vl} {i : Int} (h : m E = some (.d (.int i), E1)) : negM m E = some (.d (.int (-i)), E1) := zv_bind h zv_ret
theorem zv_part {m : M Vl} {i : Int} (h : m E = some (.d (.int i), E1)) : partM m E = some (some i, E1) := zv_bind h zv_ret
theorem zv_call {G : Fn} {m : M (List Vl)} {sl : List (Option Vl)} {ce ce' : List Ce} (h : m E = some (rs, ⟨sl, ce⟩)) (g : G rs ce = some (z, ce')) : callM G m E = some (z, ⟨sl, ce'⟩) := zv_bind h (by
  show (match G rs ce with
    | some (z, ce) => some (z, (⟨sl, ce⟩ : En))
    | none => none) = _
  rw [g])
theorem zv_addI {i j : Int} (h1 : see E.ce x = some (.int i)) (h2 : see E.ce y = some (.int j)) : addF x y E = some (.d (.int (i + j)), E) := by
  unfold addF
  rw [h1, h2]
theorem zv_addT {xs ys : List Dt} (h1 : see E.ce x = some (.tup xs)) (h2 : see E.ce y = some (.tup ys)) (h : xs.length + ys.length ≤ 100000) : addF x y E = some (.d (.tup (xs ++ ys)), E) := by
  unfold addF
  rw [h1, h2]
  show (if _ then _ else _) = _
  rw [if_pos h]
theorem zv_addL {xs ys : List Dt} (h1 : see E.ce x = some (.lst xs)) (h2 : see E.ce y = some (.lst ys)) (h : xs.length + ys.length ≤ 100000) (g : newL (xs ++ ys) E = some (z, E1)) : addF x y E = some (z, E1) := by
  unfold addF
  rw [h1, h2]
  show (if _ then _ else _) = _
  rw [if_pos h, g]
theorem zv_addS {s t : Str} (h1 : see E.ce x = some (.str s)) (h2 : see E.ce y = some (.str t)) (h : s.length + t.length ≤ sizeLine) : addF x y E = some (.d (.str (s ++ t)), E) := by
  unfold addF
  rw [h1, h2]
  show (if _ then _ else _) = _
  rw [if_pos h]
theorem zv_mulI {i j : Int} (h1 : see E.ce x = some (.int i)) (h2 : see E.ce y = some (.int j)) (h : CMul i j) : mulF x y E = some (.d (.int (i * j)), E) := by
  unfold mulF
  rw [h1, h2]
  show (if _ then _ else _) = _
  rw [if_pos h]
theorem zv_mulT {xs : List Dt} {j : Int} (h1 : see E.ce x = some (.tup xs)) (h2 : see E.ce y = some (.int j)) (h : -1000 ≤ j ∧ j ≤ 1000 ∧ xs.length ≤ 1000 ∧ xs ≠ []) : mulF x y E = some (.d (.tup (List.replicate j.toNat xs).flatten), E) := by
  unfold mulF
  rw [h1, h2]
  show (if _ then _ else _) = _
  rw [if_pos h]
theorem zv_mulL {xs : List Dt} {j : Int} (h1 : see E.ce x = some (.lst xs)) (h2 : see E.ce y = some (.int j)) (h : -1000 ≤ j ∧ j ≤ 1000 ∧ xs.length ≤ 1000) (g : newL (List.replicate j.toNat xs).flatten E = some (z, E1)) : mulF x y E = some (z, E1) := by
  unfold mulF
  rw [h1, h2]
  show (if _ then _ else _) = _
  rw [if_pos h, g]
theorem zv_slT {xs : List Dt} {lo hi : Option Int} (h : see E.ce x = some (.tup xs)) : slF x lo hi E = some (.d (.tup (cutD xs lo hi)), E) := by
  unfold slF
  rw [h]
theorem zv_slL {xs : List Dt} {lo hi : Option Int} (h : see E.ce x = some (.lst xs)) (g : newL (cutD xs lo hi) E = some (z, E1)) : slF x lo hi E = some (z, E1) := by
  unfold slF
  rw [h]
  exact g
theorem zv_slS {s : Str} {lo hi : Option Int} (h : see E.ce x = some (.str s)) (hz : s.length ≤ sizeLine) : slF x lo hi E = some (.d (.str (cutS s lo hi)), E) := by
  unfold slF
  rw [h]
  show (if _ then _ else _) = _
  rw [if_pos hz]
theorem zv_list {ds : List Dt} (h : see E.ce x = some d) (hd : itemsD d = some ds) (g : newL ds E = some (z, E1)) : listF [x] E = some (z, E1) := by
  show (match (see E.ce x).bind itemsD with
    | some ds => newL ds E
    | none => none) = _
  rw [h]
  show (match itemsD d with
    | some ds => newL ds E
    | none => none) = _
  rw [hd]
  exact g
theorem zv_tuple {ds : List Dt} (h : see E.ce x = some d) (hd : itemsD d = some ds) : tupleF [x] E = some (.d (.tup ds), E) := by
  show (match (see E.ce x).bind itemsD with
    | some ds => some (Vl.d (.tup ds), E)
    | none => none) = _
  rw [h]
  show (match itemsD d with
    | some ds => some (Vl.d (.tup ds), E)
    | none => none) = _
  rw [hd]
theorem zv_items {m : M Vl} {ds : List Dt} (h : m E = some (x, E1)) (g : fzM x E1 = some (d, E2)) (hd : itemsD d = some ds) : itemsM m E = some (ds, E2) := zv_bind (zv_bind h g) (by
  show (itemsD d).map _ = _
  rw [hd]
  rfl)
theorem zv_rng1 {m : M (List Vl)} {n : Int} (h : m E = some ([.d (.int n)], E1)) (hn : -(2 ^ 62) ≤ n ∧ n < 2 ^ 62) : rng1M m E = some (rngL 0 n.toNat, E1) := zv_bind h (by
  show (if _ then _ else _) = _
  rw [if_pos hn])
theorem zv_rng2 {m : M (List Vl)} {i j : Int} (h : m E = some ([.d (.int i), .d (.int j)], E1)) (hn : -(2 ^ 62) ≤ i ∧ i < 2 ^ 62 ∧ -(2 ^ 62) ≤ j ∧ j < 2 ^ 62) : rng2M m E = some (rngL i (j - i).toNat, E1) := zv_bind h (by
  show (if _ then _ else _) = _
  rw [if_pos hn])
/-- data -/
theorem zw_int {g : Int → Int → Option Dt} {i j : Int} (h : g i j = some d) : intF g (.int i) (.int j) = some d := h
theorem zw_lenL {xs : List Dt} : lenD (.lst xs) = some (.int (xs.length : Int)) := rfl
theorem zw_lenQ {xs : List Dt} : lenD (.sq xs) = some (.int (xs.length : Int)) := rfl
theorem zw_lenT {xs : List Dt} : lenD (.tup xs) = some (.int (xs.length : Int)) := rfl
theorem zw_eq (h : eqd d1 d2 = some k) : eqF d1 d2 = some (.bl k) := by
  unfold eqF
  rw [h]
  rfl
theorem zw_ne (h : eqd d1 d2 = some k) : neF d1 d2 = some (.bl (!k)) := by
  unfold neF
  rw [h]
  rfl
theorem zw_mod {i j : Int} (h : j ≠ 0) : modF (.int i) (.int j) = some (.int (i.fmod j)) := by
  show (if j ≠ 0 then _ else _) = _
  rw [if_pos h]
theorem zw_fdiv {i j : Int} (h : CDivN i j) : fdivF (.int i) (.int j) = some (.int (i.fdiv j)) := by
  show (if CDivN i j then _ else _) = _
  rw [if_pos h]
theorem zw_pow {i j : Int} (h : CPow i j) : powF (.int i) (.int j) = some (.int (i ^ j.toNat)) := by
  show (if CPow i j then _ else _) = _
  rw [if_pos h]
def pickM (k : Bool) (m n : M α) : M α := if k = true then m else n
def pickS (k : Bool) (m n : En → Option Rs) : En → Option Rs := if k = true then m else n
theorem zpk_T {m n : M α} (hk : k = true) (g : m E = some (a, E1)) : pickM k m n E = some (a, E1) := by
  unfold pickM
  rw [if_pos hk]
  exact g
theorem zpk_F {m n : M α} (hk : k = false) (g : n E = some (a, E1)) : pickM k m n E = some (a, E1) := by
  unfold pickM
  rw [hk]
  exact g
theorem zps_T {m n : En → Option Rs} (hk : k = true) (g : m E = some R) : pickS k m n E = some R := by
  unfold pickS
  rw [if_pos hk]
  exact g
theorem zps_F {m n : En → Option Rs} (hk : k = false) (g : n E = some R) : pickS k m n E = some R := by
  unfold pickS
  rw [hk]
  exact g
theorem zv_and {m n : M Bool} {b : Bool} (h : m E = some (k, E1)) (g : pickM k n (retM false) E1 = some (b, E2)) : andM m n E = some (b, E2) := zv_bind h g
theorem zv_or {m n : M Bool} {b : Bool} (h : m E = some (k, E1)) (g : pickM k (retM true) n E1 = some (b, E2)) : orM m n E = some (b, E2) := zv_bind h g
theorem zv_andV {m n : M Vl} (h : bindM m boolM E = some (k, E1)) (g : pickM k n (blM false) E1 = some (z, E2)) : andV m n E = some (z, E2) := zv_bind h g
theorem zv_orV {m n : M Vl} (h : bindM m boolM E = some (k, E1)) (g : pickM k (blM true) n E1 = some (z, E2)) : orV m n E = some (z, E2) := zv_bind h g
theorem zv_bl : blM k E = some (.d (.bl k), E) := rfl
theorem zv_if {t : M Bool} {m n : M α} (h : t E = some (k, E1)) (g : pickM k m n E1 = some (a, E2)) : ifM t m n E = some (a, E2) := zv_bind h g
theorem zk_if {t : M Bool} {m n : En → Option Rs} (h : t E = some (k, E1)) (g : pickS k m n E1 = some R) : ifS t m n E = some R := by
  unfold ifS
  rw [h]
  cases k with
  | true => exact g
  | false => exact g
/-! ### statements -/
def seqK (n : En → Option Rs) : Rs → Option Rs
  | .nx E1 => n E1
  | o => some o
theorem zk_nx {n : En → Option Rs} (h : n E = some R) : seqK n (.nx E) = some R := h
theorem zk_rt {n : En → Option Rs} : seqK n (.rt r E) = some (.rt r E) := rfl
theorem zk_bk {n : En → Option Rs} : seqK n (.bk E) = some (.bk E) := rfl
theorem zk_ct {n : En → Option Rs} : seqK n (.ct E) = some (.ct E) := rfl
theorem zk_seq {m n : En → Option Rs} (h : m E = some Q) (g : seqK n Q = some R) : seqS m n E = some R := by
  unfold seqS
  rw [h]
  cases Q with
  | nx E1 => exact g
  | rt r E1 => exact g
  | bk E1 => exact g
  | ct E1 => exact g
theorem zk_conv {m : En → Option Rs} {Q' : Rs} (h : m E = some Q') (e : Q' = Q) : m E = some Q := by rw [h, e]
theorem zk_nil : nilS E = some (.nx E) := rfl
theorem zk_set {i : Nat} {m : M Vl} {sl : List (Option Vl)} {ce : List Ce} (h : m E = some (r, ⟨sl, ce⟩)) : setS i m E = some (.nx ⟨sl.set i (some r), ce⟩) := by
  unfold setS
  rw [h]
  rfl
theorem zk_set2 {i j : Nat} {m : M (List Vl)} {sl : List (Option Vl)} {ce : List Ce} (h : m E = some ([x, y], ⟨sl, ce⟩)) : set2S i j m E = some (.nx ⟨(sl.set i (some x)).set j (some y), ce⟩) := by
  unfold set2S
  rw [h]
  rfl
theorem zk_drop {m : M Vl} (h : m E = some (r, E1)) : dropS m E = some (.nx E1) := by
  unfold dropS
  rw [h]
theorem zk_ret {m : M Vl} (h : m E = some (r, E1)) : retS m E = some (.rt r E1) := by
  unfold retS
  rw [h]
theorem zk_ifT {t : M Bool} {m n : En → Option Rs} (h : t E = some (k, E1)) (hk : k = true) (g : m E1 = some R) : ifS t m n E = some R := by
  unfold ifS
  rw [h]
  show (if k = true then m E1 else n E1) = _
  rw [if_pos hk]
  exact g
theorem zk_ifF {t : M Bool} {m n : En → Option Rs} (h : t E = some (k, E1)) (hk : k = false) (g : n E1 = some R) : ifS t m n E = some R := by
  unfold ifS
  rw [h]
  show (if k = true then m E1 else n E1) = _
  rw [hk]
  exact g
theorem zk_aug {i : Nat} {f : Int → Int → Int} {m : M Vl} {p q : Int} {sl : List (Option Vl)} {ce : List Ce} (h0 : E.sl[i]? = some (some (.d (.int p)))) (h : m E = some (.d (.int q), ⟨sl, ce⟩)) : augS i f m E = some (.nx ⟨sl.set i (some (.d (.int (f p q)))), ce⟩) := by
  unfold augS
  rw [h0, h]
  rfl
theorem zk_for {i : M (List Dt)} {g : Vl → En → Option En} {m : En → Option Rs} {ds : List Dt} (h : i E = some (ds, E1)) (q : forL g m ds E1 = some R) : forS i g m E = some R := by
  unfold forS
  rw [h]
  exact q
theorem zk_whF {t : M Bool} {m : En → Option Rs} {n : Nat} {sl : En} (h : t E = some (k, E1)) (hk : k = false) (e : E1 = sl) : whileS t m (n + 1) E = some (.nx sl) := by
  subst hk e
  unfold whileS
  rw [h]
theorem zk_whT {t : M Bool} {m : En → Option Rs} {n : Nat} (h : t E = some (k, E1)) (hk : k = true) (g : m E1 = some (.nx E2)) (q : whileS t m n E2 = some R) : whileS t m (n + 1) E = some R := by
  subst hk
  unfold whileS
  rw [h]
  show (match m E1 with
      | some (.nx E2) => whileS t m n E2
      | some (.ct E2) => whileS t m n E2
      | some (.bk E2) => some (.nx E2)
      | some (.rt r E2) => some (.rt r E2)
      | none => none) = _
  rw [g]
  exact q
theorem zk_setI {m mo mi : M Vl} {n : Nat} {j : Int} {xs : List Dt} {c : Nat} {sl : List (Option Vl)} {ce : List Ce} (h : m E = some (.d d, E1)) (ho : mo E1 = some (.c c, E2)) (hi : mi E2 = some (.d (.int j), ⟨sl, ce⟩)) (hc : ce[c]? = some (.lst xs)) (hj : ixN xs.length j = some n) :
    setIS m mo mi E = some (.nx ⟨sl, ce.set c (.lst (xs.set n d))⟩) := by
  unfold setIS
  rw [zv_bind h (zv_bind ho (zv_bind hi (zv_bind (E1 := ⟨sl, ce⟩) (zv_fzD (d := d)) (show onC _ (.c c) ⟨sl, ce⟩ = some (.d .non, ⟨sl, ce.set c (.lst (xs.set n d))⟩) from by
    show (match ce[c]? with
      | some (.lst xs) => match (ixN xs.length j).map fun n => (Dt.non, xs.set n d) with
        | some (d, ys) => some (Vl.d d, (⟨sl, ce.set c (.lst ys)⟩ : En))
        | none => none
      | _ => none) = _
    rw [hc]
    simp only [hj, Option.map_some]))))]
/-! ### a whole def -/
theorem zf_rt {nl : Nat} {m : En → Option Rs} {ce ce' : List Ce} (h : m ⟨rs.map some ++ List.replicate nl none, ce⟩ = some (.rt r E)) (g : trimC ce.length r E.ce = some (z, ce')) : fnOf nl m rs ce = some (z, ce') := by
  unfold fnOf
  rw [h]
  exact g
theorem zf_nx {nl : Nat} {m : En → Option Rs} {ce ce' : List Ce} (h : m ⟨rs.map some ++ List.replicate nl none, ce⟩ = some (.nx E)) (g : trimC ce.length (.d .non) E.ce = some (z, ce')) : fnOf nl m rs ce = some (z, ce') := by
  unfold fnOf
  rw [h]
  exact g
theorem trim_d {n : Nat} {ce ce' : List Ce} (h : ce.take n = ce') : trimC n (.d d) ce = some (.d d, ce') := by
  subst h
  rfl
theorem trim_new {ce : List Ce} {c : Ce} {n : Nat} (h : ce.length = n) : trimC n (.c n) (ce ++ [c]) = some (.c n, ce ++ [c]) := by
  unfold trimC
  subst h
  show (if ce.length < ce.length then _ else _) = _
  rw [if_neg (Nat.lt_irrefl _), get_new, List.take_left']
  rfl
/-! ### loops and comprehensions by what holds between two turns -/
def turnC (own : List Nat) (k : Nat) (g : Vl → En → Option En) (t : M Bool) (m : M Vl) (d : Dt) (E : En) : Option En := match g (.d d) (wipeE own E) with
    | some E1 => match t E1 with
      | some (true, E2) => match bindM m fzM E2 with
        | some (x, E4) => match E4.ce[k]? with
          | some (.lst acc) => if acc.length < 100000 then some ⟨E4.sl, E4.ce.set k (.lst (acc ++ [x]))⟩ else none
          | _ => none
        | none => none
      | some (false, E2) => some E2
      | none => none
    | none => none
theorem compL_cons {own : List Nat} {k : Nat} {g : Vl → En → Option En} {t : M Bool} {m : M Vl} {d : Dt} {ds : List Dt} {E : En} : compL own k g t m (d :: ds) E = match turnC own k g t m d E with
    | some E1 => compL own k g t m ds E1
    | none => none := by
  unfold turnC
  conv => lhs; unfold compL
  cases h0 : g (.d d) (wipeE own E) with
  | none => rfl
  | some E1 =>
    simp only
    cases h1 : t E1 with
    | none => rfl
    | some p =>
      obtain ⟨b, E2⟩ := p
      cases b with
      | false => rfl
      | true =>
        simp only
        cases h : bindM m fzM E2 with
        | none => rfl
        | some p =>
          obtain ⟨x, E4⟩ := p
          simp only
          cases h2 : E4.ce[k]? with
          | none => rfl
          | some c =>
            cases c with
            | dead => rfl
            | pin o => rfl
            | ins C ns ds => rfl
            | dic ks ds => rfl
            | dit ks ds => rfl
            | lst acc =>
              by_cases hz : acc.length < 100000
              · simp only [if_pos hz]
              · simp only [if_neg hz]
theorem comp_inv {own : List Nat} {k : Nat} {g : Vl → En → Option En} {t : M Bool} {m : M Vl} (P : Nat → En → Prop) : ∀ (ds : List Dt) (i0 : Nat) (E : En), P i0 E →
    (∀ i d E, ds[i]? = some d → P (i0 + i) E → ∃ E1, turnC own k g t m d E = some E1 ∧ P (i0 + i + 1) E1) → ∃ E2, compL own k g t m ds E = some E2 ∧ P (i0 + ds.length) E2
  | [], i0, E, h0, _ => ⟨E, rfl, h0⟩
  | d :: ds, i0, E, h0, hs => by
    obtain ⟨E1, e1, p1⟩ := hs 0 d E rfl h0
    obtain ⟨E2, e2, p2⟩ := comp_inv P ds (i0 + 1) E1 p1 fun i d E hd hp => by
      have e : i0 + 1 + i = i0 + (i + 1) := by omega
      rw [e] at hp ⊢
      exact hs (i + 1) d E hd hp
    refine ⟨E2, by rw [compL_cons, e1]; exact e2, ?_⟩
    have e : i0 + (d :: ds).length = i0 + 1 + ds.length := by rw [List.length_cons]; omega
    rw [e]
    exact p2
theorem zt_yes {own : List Nat} {c : Nat} {g : Vl → En → Option En} {t : M Bool} {m : M Vl} {d : Dt} {E E1 E2 E3 : En} {acc : List Dt} {x : Dt} {r : Vl} {sl : List (Option Vl)} {ce : List Ce} (hg : g (.d d) (wipeE own E) = some E1) (ht : t E1 = some (true, E2)) (hm : m E2 = some (r, E3)) (hf : fzM r E3 = some (x, ⟨sl, ce⟩))
    (hc : ce[c]? = some (.lst acc)) (hl : acc.length < 100000) : turnC own c g t m d E = some ⟨sl, ce.set c (.lst (acc ++ [x]))⟩ := by
  unfold turnC
  rw [hg]
  show (match t E1 with
      | some (true, E2) => _
      | some (false, E2) => _
      | none => none) = _
  rw [ht]
  show (match bindM m fzM E2 with
          | some (x, E4) => _
          | none => none) = _
  rw [zv_bind hm hf]
  show (match ce[c]? with
          | some (.lst acc) => if acc.length < 100000 then some (⟨sl, ce.set c (.lst (acc ++ [x]))⟩ : En) else none
          | _ => none) = _
  rw [hc]
  show (if _ then _ else _) = _
  rw [if_pos hl]
theorem zt_no {own : List Nat} {c : Nat} {g : Vl → En → Option En} {t : M Bool} {m : M Vl} {d : Dt} {E E1 E2 : En} (hg : g (.d d) (wipeE own E) = some E1) (ht : t E1 = some (false, E2)) : turnC own c g t m d E = some E2 := by
  unfold turnC
  rw [hg]
  show (match t E1 with
      | some (true, E2) => _
      | some (false, E2) => _
      | none => none) = _
  rw [ht]
theorem zv_comp {own : List Nat} {i : M (List Dt)} {g : Vl → En → Option En} {t : M Bool} {m : M Vl} {ds : List Dt} {E E2 : En} {sl : List (Option Vl)} {ce : List Ce} (h : i E = some (ds, ⟨sl, ce⟩)) (hc : compL own ce.length g t m ds ⟨sl, ce ++ [.lst []]⟩ = some E2) :
    compM own i g t m E = some (.c ce.length, ⟨bring sl E2.sl own, E2.ce⟩) := by
  unfold compM
  rw [h]
  show (match compL own ce.length g t m ds ⟨sl, ce ++ [.lst []]⟩ with
    | some E2 => some (Vl.c ce.length, (⟨bring sl E2.sl own, E2.ce⟩ : En))
    | none => none) = _
  rw [hc]
/-- which turns give, and what -/
def givenD (n : Nat) (b : Nat → Bool) (f : Nat → Dt) : List Dt := ((List.range n).filter b).map f
theorem givenD_yes {n : Nat} {b : Nat → Bool} {f : Nat → Dt} (h : b n = true) : givenD (n + 1) b f = givenD n b f ++ [f n] := by
  unfold givenD
  rw [List.range_succ, List.filter_append, List.map_append, List.filter_cons, if_pos h] <;> rfl
theorem givenD_no {n : Nat} {b : Nat → Bool} {f : Nat → Dt} (h : b n = false) : givenD (n + 1) b f = givenD n b f := by
  unfold givenD
  rw [List.range_succ, List.filter_append, List.map_append, List.filter_cons, if_neg (by rw [h]; decide)]
  show _ ++ [] = _
  rw [List.append_nil]
theorem givenD_len (n : Nat) (b : Nat → Bool) (f : Nat → Dt) : (givenD n b f).length ≤ n := by
  unfold givenD
  rw [List.length_map]
  have h := List.length_filter_le b (List.range n)
  rw [List.length_range] at h
  exact h
theorem givenD_all {n : Nat} {f : Nat → Dt} : givenD n (fun _ => true) f = (List.range n).map f := by
  unfold givenD
  rw [List.filter_eq_self.mpr (fun _ _ => rfl)]
theorem get_mid {α : Type} (l : List α) (x : α) (r : List α) : (l ++ [x] ++ r)[l.length]? = some x := by simp
theorem set_mid {α : Type} (l : List α) (x y : α) (r : List α) : (l ++ [x] ++ r).set l.length y = l ++ [y] ++ r := by
  rw [List.set_append_left _ _ (by simp), set_new]
theorem comp_gen {v : Nat} {mi : M (List Dt)} {t : M Bool} {m : M Vl} {ds : List Dt} {E : En} {sl : List (Option Vl)} {ce : List Ce} (b : Nat → Bool) (f : Nat → Dt) (hi : mi E = some (ds, ⟨sl, ce⟩)) (hv : v < sl.length) (hn : ds.length < 100000)
    (hs : ∀ (i : Nat) (d : Dt) (c : Ce) (gs : List Ce), ds[i]? = some d → ∃ gs', t ⟨sl.set v (some (.d d)), ce ++ [c] ++ gs⟩ = some (b i, ⟨sl.set v (some (.d d)), ce ++ [c] ++ gs'⟩) ∧ (b i = true → ∃ gs'', m ⟨sl.set v (some (.d d)), ce ++ [c] ++ gs'⟩ = some (.d (f i), ⟨sl.set v (some (.d d)), ce ++ [c] ++ gs''⟩))) :
    ∃ gs, compM [v] mi (nameG v) t m E = some (.c ce.length, ⟨sl, ce ++ [.lst (givenD ds.length b f)] ++ gs⟩) := by
  obtain ⟨E2, ec, z, gs, e⟩ := comp_inv (own := [v]) (k := ce.length) (g := nameG v) (t := t) (m := m) (fun i E => ∃ (z : Option Vl) (gs : List Ce), E = ⟨sl.set v z, ce ++ [.lst (givenD i b f)] ++ gs⟩) ds 0 ⟨sl, ce ++ [.lst []]⟩
    ⟨sl[v]'hv, [], by rw [List.append_nil, List.set_getElem_self]; rfl⟩ (fun i d E hd hp => by
      obtain ⟨z, gs, rfl⟩ := hp
      rw [Nat.zero_add]
      obtain ⟨gs', ht, hm⟩ := hs i d (.lst (givenD i b f)) gs hd
      have hg : nameG v (.d d) (wipeE [v] ⟨sl.set v z, ce ++ [.lst (givenD i b f)] ++ gs⟩) = some ⟨sl.set v (some (.d d)), ce ++ [.lst (givenD i b f)] ++ gs⟩ := by
        show some (En.mk (((sl.set v z).set v none).set v (some (.d d))) _) = _
        rw [List.set_set, List.set_set]
        rfl
      cases hb : b i with
      | true =>
        rw [hb] at ht
        obtain ⟨gs'', hm⟩ := hm hb
        have hl := givenD_len i b f
        have hi2 : i < ds.length := (List.getElem?_eq_some_iff.mp hd).1
        refine ⟨_, zt_yes hg ht hm zv_fzD (get_mid _ _ _) (by omega), some (.d d), gs'', ?_⟩
        rw [set_mid, givenD_yes hb]
      | false =>
        rw [hb] at ht
        exact ⟨_, zt_no hg ht, some (.d d), gs', by rw [givenD_no hb]⟩)
  rw [Nat.zero_add] at e
  refine ⟨gs, ?_⟩
  rw [zv_comp hi ec, e]
  have hb : bring sl (sl.set v z) [v] = sl := by
    show (sl.set v z).set v (sl[v]?.getD none) = sl
    rw [List.set_set, List.getElem?_eq_getElem hv]
    exact List.set_getElem_self hv
  rw [hb]
/-- a loop whose turns go on -/
theorem for_inv {g : Vl → En → Option En} {m : En → Option Rs} (P : Nat → En → Prop) : ∀ (ds : List Dt) (i0 : Nat) (E : En), P i0 E →
    (∀ i d E, ds[i]? = some d → P (i0 + i) E → ∃ E1 E2, g (.d d) E = some E1 ∧ m E1 = some (.nx E2) ∧ P (i0 + i + 1) E2) → ∃ E2, forL g m ds E = some (.nx E2) ∧ P (i0 + ds.length) E2
  | [], i0, E, h0, _ => ⟨E, rfl, h0⟩
  | d :: ds, i0, E, h0, hs => by
    obtain ⟨E1, E2, e1, e2, p1⟩ := hs 0 d E rfl h0
    obtain ⟨E3, e3, p2⟩ := for_inv P ds (i0 + 1) E2 p1 fun i d E hd hp => by
      have e : i0 + 1 + i = i0 + (i + 1) := by omega
      rw [e] at hp ⊢
      exact hs (i + 1) d E hd hp
    refine ⟨E3, ?_, ?_⟩
    · unfold forL
      rw [e1]
      show (match m E1 with
        | some (.nx E2) => forL g m ds E2
        | some (.ct E2) => forL g m ds E2
        | some (.bk E2) => some (.nx E2)
        | some (.rt r E2) => some (.rt r E2)
        | none => none) = _
      rw [e2]
      exact e3
    · have e : i0 + (d :: ds).length = i0 + 1 + ds.length := by rw [List.length_cons]; omega
      rw [e]
      exact p2
theorem rng_len (lo : Int) (n : Nat) : (rngL lo n).length = n := by simp [rngL]
theorem rng_at {lo : Int} {n i : Nat} {d : Dt} (h : (rngL lo n)[i]? = some d) : i < n ∧ d = .int (lo + (i : Int)) := by
  have hi : i < n := by
    have := (List.getElem?_eq_some_iff.mp h).1
    rw [rng_len] at this
    exact this
  refine ⟨hi, ?_⟩
  unfold rngL at h
  rw [List.getElem?_map, List.getElem?_range hi] at h
  exact (Option.some.inj h).symm
theorem toPA_ints : ∀ bs : List Int, toPA (bs.map Dt.int) = some (bs.map PyData.int)
  | [] => rfl
  | b :: bs => by
    show (match toP (.int b), toPA (bs.map Dt.int) with
      | some p, some ps => some (p :: ps)
      | _, _ => none) = _
    rw [toPA_ints bs]
    rfl
theorem lay_ints : ∀ bs : List Int, PyData.canLayAll0 (bs.map PyData.int) = true
  | [] => by simp [PyData.canLayAll0]
  | b :: bs => by simp [PyData.canLayAll0, PyData.canLay0, lay_ints bs]
theorem dep_ints : ∀ bs : List Int, PyData.depthAll (bs.map PyData.int) ≤ 1
  | [] => by simp [PyData.depthAll]
  | b :: bs => by
    have := dep_ints bs
    simp only [List.map_cons, PyData.depthAll, PyData.depth]
    omega
theorem eqv_ints : ∀ bs cs : List Int, PyData.eqvAll (bs.map PyData.int) (cs.map PyData.int) = decide (bs = cs)
  | [], [] => by simp [PyData.eqvAll]
  | [], c :: cs => by simp [PyData.eqvAll]
  | b :: bs, [] => by simp [PyData.eqvAll]
  | b :: bs, c :: cs => by
    simp only [List.map_cons, PyData.eqvAll, PyData.eqv, eqv_ints bs cs]
    by_cases h1 : b = c <;> by_cases h2 : bs = cs <;> simp [h1, h2]
theorem sh_tup {ps : List PyData} (h : PyData.canLayAll0 ps = true) (hd : PyData.depthAll ps ≤ 60) : SeqAt.shaped (.tuple ps) = true := by
  show (PyData.canLay0 (.tuple ps) && decide (PyData.depth (.tuple ps) ≤ 64)) = true
  rw [Bool.and_eq_true]
  refine ⟨by simp only [PyData.canLay0]; exact h, decide_eq_true ?_⟩
  simp only [PyData.depth]
  omega
theorem sh_lst {ps : List PyData} (h : PyData.canLayAll0 ps = true) (hd : PyData.depthAll ps ≤ 60) : SeqAt.shaped (.list ps) = true := by
  show (PyData.canLay0 (.list ps) && decide (PyData.depth (.list ps) ≤ 64)) = true
  rw [Bool.and_eq_true]
  refine ⟨by simp only [PyData.canLay0]; exact h, decide_eq_true ?_⟩
  simp only [PyData.depth]
  omega
theorem zq_intsL {bs cs : List Int} : eqd (.lst (bs.map Dt.int)) (.lst (cs.map Dt.int)) = some (decide (bs = cs)) := by
  unfold eqd
  have e1 : toP (.lst (bs.map Dt.int)) = some (.list (bs.map PyData.int)) := by
    rw [toP, toPA_ints]
    rfl
  have e2 : toP (.lst (cs.map Dt.int)) = some (.list (cs.map PyData.int)) := by
    rw [toP, toPA_ints]
    rfl
  rw [e1, e2]
  have s1 := sh_lst (lay_ints bs) (by have := dep_ints bs; omega)
  have s2 := sh_lst (lay_ints cs) (by have := dep_ints cs; omega)
  show (if _ then _ else _) = _
  rw [if_pos ⟨s1, s2⟩]
  simp only [PyData.eqv, eqv_ints]
theorem cut_ev {β : Type} {P : Prop} (x : Option β) {r : β} (h : x = some r) (k : x = some r → P) : P := k h
theorem zw_abs {i : Int} : absD (.int i) = some (.int (if i < 0 then -i else i)) := rfl
theorem zw_intI {i : Int} : intD (.int i) = some (.int i) := rfl
theorem zw_intB {b : Bool} : intD (.bl b) = some (.int (if b then 1 else 0)) := rfl
theorem zq_int {i j : Int} : eqd (.int i) (.int j) = some (i == j) := rfl
theorem zq_bl {i j : Bool} : eqd (.bl i) (.bl j) = some (i == j) := rfl
theorem toPA_bls : ∀ bs : List Bool, toPA (bs.map Dt.bl) = some (bs.map PyData.bool)
  | [] => rfl
  | b :: bs => by
    show (match toP (.bl b), toPA (bs.map Dt.bl) with
      | some p, some ps => some (p :: ps)
      | _, _ => none) = _
    rw [toPA_bls bs]
    rfl
theorem lay_bls : ∀ bs : List Bool, PyData.canLayAll0 (bs.map PyData.bool) = true
  | [] => by simp [PyData.canLayAll0]
  | b :: bs => by simp [PyData.canLayAll0, PyData.canLay0, lay_bls bs]
theorem dep_bls : ∀ bs : List Bool, PyData.depthAll (bs.map PyData.bool) ≤ 1
  | [] => by simp [PyData.depthAll]
  | b :: bs => by
    have := dep_bls bs
    simp only [List.map_cons, PyData.depthAll, PyData.depth]
    omega
theorem eqv_bls : ∀ bs cs : List Bool, PyData.eqvAll (bs.map PyData.bool) (cs.map PyData.bool) = decide (bs = cs)
  | [], [] => by simp [PyData.eqvAll]
  | [], c :: cs => by simp [PyData.eqvAll]
  | b :: bs, [] => by simp [PyData.eqvAll]
  | b :: bs, c :: cs => by
    simp only [List.map_cons, PyData.eqvAll, PyData.eqv, eqv_bls bs cs]
    by_cases h1 : b = c <;> by_cases h2 : bs = cs <;> simp [h1, h2]
theorem zq_blsT {bs cs : List Bool} : eqd (.tup (bs.map Dt.bl)) (.tup (cs.map Dt.bl)) = some (decide (bs = cs)) := by
  unfold eqd
  have e1 : toP (.tup (bs.map Dt.bl)) = some (.tuple (bs.map PyData.bool)) := by
    rw [toP, toPA_bls]
    rfl
  have e2 : toP (.tup (cs.map Dt.bl)) = some (.tuple (cs.map PyData.bool)) := by
    rw [toP, toPA_bls]
    rfl
  rw [e1, e2]
  have s1 := sh_tup (lay_bls bs) (by have := dep_bls bs; omega)
  have s2 := sh_tup (lay_bls cs) (by have := dep_bls cs; omega)
  show (if _ then _ else _) = _
  rw [if_pos ⟨s1, s2⟩]
  simp only [PyData.eqv, eqv_bls]
theorem zq_blsL {bs cs : List Bool} : eqd (.lst (bs.map Dt.bl)) (.lst (cs.map Dt.bl)) = some (decide (bs = cs)) := by
  unfold eqd
  have e1 : toP (.lst (bs.map Dt.bl)) = some (.list (bs.map PyData.bool)) := by
    rw [toP, toPA_bls]
    rfl
  have e2 : toP (.lst (cs.map Dt.bl)) = some (.list (cs.map PyData.bool)) := by
    rw [toP, toPA_bls]
    rfl
  rw [e1, e2]
  have s1 := sh_lst (lay_bls bs) (by have := dep_bls bs; omega)
  have s2 := sh_lst (lay_bls cs) (by have := dep_bls cs; omega)
  show (if _ then _ else _) = _
  rw [if_pos ⟨s1, s2⟩]
  simp only [PyData.eqv, eqv_bls]
end
end Hk
/-! Hk9: instances of own classes: made, their fields, methods, operators. -/
namespace Hk
open PySem PySem.Spec PyProof.Rows L2 Evl

/-! ### fields -/
def look (f : Str) : List Str → List Dt → Option Dt
  | n :: ns, d :: ds => if f = n then some d else look f ns ds
  | _, _ => none
def putN (f : Str) : List Str → List Str
  | [] => [f]
  | g :: r => if g = f then g :: r else g :: putN f r
def putD (f : Str) (d : Dt) : List Str → List Dt → List Dt
  | [], _ => [d]
  | g :: r, x :: xs => if g = f then d :: xs else x :: putD f d r xs
  | _ :: _, [] => []
section
variable {K : PySem.W.Frag} {H Hd : Hp} {μ : List Addr}
theorem look_ok {f : Str} : ∀ {fs : List (Str × V)} {ds : List Dt} {d : Dt}, RpA K H ds (fs.map (·.2)) → look f (fs.map (·.1)) ds = some d → ∃ v, fs.lookup f = some v ∧ Rp K H d v
  | [], ds, d, _, e => by
    cases ds <;> cases e
  | (g, x) :: fs, [], d, h, e => by cases e
  | (g, x) :: fs, y :: ds, d, h, e => by
    obtain ⟨x', r, e0, h2, h3⟩ := h
    cases e0
    have e : (if f = g then some y else look f (fs.map (·.1)) ds) = some d := e
    by_cases hf : f = g
    · rw [if_pos hf] at e
      cases e
      exact ⟨x, by simp only [List.lookup, beq_iff_eq.mpr hf], h2⟩
    · rw [if_neg hf] at e
      obtain ⟨v, h4, h5⟩ := look_ok h3 e
      exact ⟨v, by
        have hb : (f == g) = false := by simpa using hf
        simp only [List.lookup, hb]
        exact h4, h5⟩
theorem look_none {f : Str} : ∀ {fs : List (Str × V)} {ds : List Dt}, RpA K H ds (fs.map (·.2)) → look f (fs.map (·.1)) ds = none → fs.lookup f = none
  | [], ds, _, e => rfl
  | (g, x) :: fs, [], h, e => by
    have := h.len
    simp at this
  | (g, x) :: fs, y :: ds, h, e => by
    obtain ⟨x', r, e0, h2, h3⟩ := h
    cases e0
    have e : (if f = g then some y else look f (fs.map (·.1)) ds) = none := e
    by_cases hf : f = g
    · rw [if_pos hf] at e
      cases e
    · rw [if_neg hf] at e
      have hb : (f == g) = false := by simpa using hf
      simp only [List.lookup, hb]
      exact look_none h3 e
theorem putF_ok {f : Str} {d : Dt} {v : V} (hv : Rp K H d v) : ∀ {fs : List (Str × V)} {ds : List Dt}, RpA K H ds (fs.map (·.2)) → (putF f v fs).map (·.1) = putN f (fs.map (·.1)) ∧ RpA K H (putD f d (fs.map (·.1)) ds) ((putF f v fs).map (·.2))
  | [], ds, _ => ⟨rfl, v, [], rfl, hv, rfl⟩
  | (g, x) :: fs, [], h => by
    have := h.len
    simp at this
  | (g, x) :: fs, y :: ds, h => by
    obtain ⟨x', r, e0, h2, h3⟩ := h
    cases e0
    by_cases hf : g = f
    · have e1 : putF f v ((g, x) :: fs) = (g, v) :: fs := if_pos hf
      have e2 : putN f (((g, x) :: fs).map (·.1)) = g :: fs.map (·.1) := if_pos hf
      have e3 : putD f d (((g, x) :: fs).map (·.1)) (y :: ds) = d :: ds := if_pos hf
      rw [e1, e2, e3]
      exact ⟨rfl, v, _, rfl, hv, h3⟩
    · have e1 : putF f v ((g, x) :: fs) = (g, x) :: putF f v fs := if_neg hf
      have e2 : putN f (((g, x) :: fs).map (·.1)) = g :: putN f (fs.map (·.1)) := if_neg hf
      have e3 : putD f d (((g, x) :: fs).map (·.1)) (y :: ds) = y :: putD f d (fs.map (·.1)) ds := if_neg hf
      rw [e1, e2, e3]
      obtain ⟨i1, i2⟩ := putF_ok hv h3
      exact ⟨by rw [List.map_cons, i1], x, _, rfl, h2, i2⟩
/-- an instance that is seen: its fields are data -/
theorem see_obj {ce : List Ce} {r : Vl} {v : V} {C : Str} {ns : List Str} {ds : List Dt} (w : Wo K μ Hd H ce) (hv : Rv K μ Hd r v) (h : see ce r = some (.obj C ns ds)) : ∃ a dx fs, v = .ref a ∧ H a = some (.ins (clA K C) dx fs) ∧ fs.map (·.1) = ns ∧ RpA K Hd ds (fs.map (·.2)) := by
  cases r with
  | d d' =>
    have e : d' = .obj C ns ds := Option.some.inj h
    subst e
    obtain ⟨a, dx, fs, h1, h2, h3, h4⟩ := hv
    exact ⟨a, dx, fs, h1, w.ex a _ h2, h3, h4⟩
  | c k =>
    obtain ⟨c, e1, e3⟩ := seeC_some h
    obtain ⟨a, e2, rfl⟩ := hv
    obtain ⟨h1, o, h2, h3⟩ := w.at_ k c a e1 e2 (dataC_live e3)
    cases c with
    | ins C' ns' xs =>
      cases e3
      obtain ⟨dx, fs, rfl, h3, h4⟩ := h3
      exact ⟨a, dx, fs, rfl, h2, h3, h4⟩
    | _ => cases e3
  | t rs => cases h
def fldD (C f : Str) : Dt → Option Dt
  | .obj C' ns ds => if C' = C then look f ns ds else none
  | _ => none
theorem fldD_some {C f : Str} {x d : Dt} (h : fldD C f x = some d) : ∃ ns ds, x = .obj C ns ds ∧ look f ns ds = some d := by
  cases x with
  | obj C' ns ds =>
    by_cases hc : C' = C
    · subst hc
      have h : (if C' = C' then look f ns ds else none) = some d := h
      rw [if_pos rfl] at h
      exact ⟨ns, ds, rfl, h⟩
    · have h : (if C' = C then look f ns ds else none) = some d := h
      rw [if_neg hc] at h
      cases h
  | _ => cases h
def fldM (C f : Str) (m : M Vl) : M Vl := bindM m (seeF (fldD C f))
theorem em_fld {te : TE} {m : M Vl} {C f : Str} (c : Cls K (clA K C)) (n : NoAttr K (clA K C) f) (h : EM K te m) : EM K (tFld K te f) (fldM C f m) := fun {μ Hd H σ E r E'} R e Q q => by
  obtain ⟨x, E1, e1, e2⟩ := bindM_some e
  obtain ⟨y, d, e3, e4, rfl, rfl⟩ := seeF_some e2
  obtain ⟨ns, ds, rfl, e5⟩ := fldD_some e4
  refine h R e1 _ fun μ1 Hd1 H1 v g1 R1 r1 => ?_
  obtain ⟨a, dx, fs, rfl, h2, rfl, h4⟩ := see_obj R1.wo r1 e3
  obtain ⟨u, h5, h6⟩ := look_ok h4 e5
  exact ⟨a, _, dx, fs, u, rfl, h2, c, n, h5, q μ1 Hd1 H1 u g1 R1 h6⟩
/-- o.f = value -/
def setFS (C f : Str) (mv mo : M Vl) : En → Option Rs := fun E => match bindM mv fzM E with
  | some (d, E1) => match mo E1 with
    | some (.c k, E2) => match E2.ce[k]? with
      | some (.ins C' ns ds) => if C' = C ∧ ns.length < 1000 then some (.nx ⟨E2.sl, E2.ce.set k (.ins C (putN f ns) (putD f d ns ds))⟩) else none
      | _ => none
    | _ => none
  | none => none
theorem sm_fld {tv to : TE} {mv mo : M Vl} {C f : Str} (c : Cls K (clA K C)) (n : NoAttr K (clA K C) f) (hv : EM K tv mv) (ho : EM K to mo) : SM K (sFld K to tv f) (setFS C f mv mo) := fun {μ Hd H σ E R} r e D q => by
  unfold setFS at e
  split at e
  · rename_i d E1 e1
    split at e
    · rename_i k E2 e2
      split at e
      · rename_i C' ns ds e3
        split at e
        · rename_i hc
          cases e
          obtain ⟨rfl, hl⟩ := hc
          obtain ⟨x, E0, e4, e5⟩ := bindM_some e1
          refine hv r e4 _ fun μ1 Hd1 H1 v g1 R1 r1 => ?_
          obtain ⟨Hd2, g2, R2, p2⟩ := fzM_ok R1 r1 e5
          refine ho R2 e2 _ fun μ3 Hd3 H3 u g3 R3 r3 => ?_
          obtain ⟨a, ha, rfl⟩ := r3
          obtain ⟨h1, o, h2, dx, fs, rfl, h3, h4⟩ := R3.wo.at_ k _ a e3 ha rfl
          subst h3
          obtain ⟨k1, k2⟩ := putF_ok (f := f) (Rp.ex g3.ex _ _ p2) h4
          refine ⟨a, _, dx, fs, rfl, h2, c, n, by simpa using hl, ?_⟩
          exact q μ3 Hd3 _ σ ((g1.trans g2).trans g3) (R3.setX e3 rfl ha ⟨dx, _, rfl, k1, k2⟩)
        · cases e
      · cases e
    · cases e
  · cases e
/-! ### C(..) -/
def makeM (C : Str) (G : Fn) (m : M (List Vl)) : M Vl := bindM m fun rs => fun E => match G (.c E.ce.length :: rs) (E.ce ++ [.ins C [] []]) with
  | some (.d .non, ce) => some (.c E.ce.length, ⟨E.sl, ce⟩)
  | _ => none
theorem em_make {C : Str} {G : Fn} {n : Nat} {ta : TA} {ma : M (List Vl)} {E0 : XK} (hn : ∀ E rs E', ma E = some (rs, E') → rs.length = n) (h : AM K ta ma) : EM K (tMake (clA K C) (spM K (n + 1) G) [] E0 ta) (makeM C G ma) := fun {μ Hd H σ E r E'} R q Q k => by
  obtain ⟨rs, E1, e1, e2⟩ := bindM_some q
  split at e2
  · rename_i ce e3
    cases e2
    refine h R e1 _ fun μ1 Hd1 H1 vs g1 R1 r1 x dx hx hdx hne => ?_
    rw [List.append_nil]
    obtain ⟨g2, R2⟩ := R1.newD (o := .own x) hdx
    have hx2 : (upd H1 dx (.own x)) x = none := by
      rw [upd_ne (fun e => hne e.symm)]
      exact hx
    obtain ⟨g3, R3, r3⟩ := R2.newX (c := .ins C [] []) (o := .ins (clA K C) dx []) hx2 ⟨dx, [], rfl, rfl, rfl⟩
    refine ⟨by rw [List.length_cons, r1.len, hn _ _ _ e1], _, _, _, _, _, _, R3.wo, .cons r3 ((r1.gr g2).gr g3), e3, fun μ4 Hd4 H4 v g4 w4 r4 => ⟨r4, ?_⟩⟩
    obtain ⟨a, ha, ea⟩ := r3
    cases ea
    exact k μ4 Hd4 H4 _ (((g1.trans g2).trans g3).trans g4) ⟨w4, ((R1.sl.gr g2).gr g3).gr g4⟩ ⟨_, g4.pre _ _ ha, rfl⟩
  · cases e2
/-! ### o.m(..) -/
def methM (C m : Str) (G : Fn) (mo : M Vl) (ms : M (List Vl)) : M Vl := bindM mo fun x => fun E => match see E.ce x with
  | some (.obj C' ns ds) => if C' = C ∧ (look m ns ds).isNone = true then (bindM ms fun rs => fun E2 => match G (x :: rs) E2.ce with
    | some (z, ce) => some (z, (⟨E2.sl, ce⟩ : En))
    | none => none) E else none
  | _ => none
theorem em_meth {C m : Str} {G : Fn} {n : Nat} {to : TE} {mo : M Vl} {ta : TA} {ma : M (List Vl)} {E0 : XK} (hn : ∀ E rs E', ma E = some (rs, E') → rs.length = n) (ho : EM K to mo) (h : AM K ta ma) : EM K (tMeth (clA K C) m (spM K (n + 1) G) [] E0 to ta) (methM C m G mo ma) := fun {μ Hd H σ E r E'} R q Q k => by
  obtain ⟨x, E1, e1, e2⟩ := bindM_some q
  split at e2
  · rename_i C' ns ds e3
    split at e2
    · rename_i hc
      obtain ⟨rfl, hm⟩ := hc
      obtain ⟨rs, E2, e4, e5⟩ := bindM_some e2
      split at e5
      · rename_i z ce e6
        cases e5
        refine ho R e1 _ fun μ1 Hd1 H1 v g1 R1 r1 => ?_
        obtain ⟨a, dx, fs, rfl, h2, rfl, h4⟩ := see_obj R1.wo r1 e3
        refine ⟨a, dx, fs, rfl, h2, look_none h4 (Option.isNone_iff_eq_none.mp hm), ?_⟩
        refine h R1 e4 _ fun μ2 Hd2 H2 vs g2 R2 r2 => ?_
        rw [List.append_nil]
        exact ⟨by rw [List.length_cons, r2.len, hn _ _ _ e4], μ2, Hd2, E2.ce, _, r, ce, R2.wo, .cons (Rv.gr g2 r1) r2, e6, fun μ3 Hd3 H3 v g3 w3 r3 => k μ3 Hd3 H3 v ((g1.trans g2).trans g3) ⟨w3, R2.sl.gr g3⟩ r3⟩
      · cases e5
    · cases e2
  · cases e2
/-! ### operators of an own class -/
def rM1 (C : Addr) (sp : Sp) (E : XK) : V → Hp → VK → Prop := fun x H Q => ∃ a dx fs, x = .ref a ∧ H a = some (.ins C dx fs) ∧ sp [x] H Q E
def rM2 (C : Addr) (sp : Sp) (E : XK) : R2 := fun x y H Q => ∃ a dx fs b dy gs, x = .ref a ∧ y = .ref b ∧ H a = some (.ins C dx fs) ∧ H b = some (.ins C dy gs) ∧ sp [x, y] H Q E
def ownF1 (C : Str) (G : Fn) (x : Vl) : M Vl := fun E => match see E.ce x with
  | some (.obj C' _ _) => if C' = C then match G [x] E.ce with
    | some (z, ce) => some (z, ⟨E.sl, ce⟩)
    | none => none else none
  | _ => none
def ownF2 (C : Str) (G : Fn) (x y : Vl) : M Vl := fun E => match see E.ce x, see E.ce y with
  | some (.obj C' _ _), some (.obj C2 _ _) => if C' = C ∧ C2 = C then match G [x, y] E.ce with
    | some (z, ce) => some (z, ⟨E.sl, ce⟩)
    | none => none else none
  | _, _ => none
theorem um_own {C : Str} {G : Fn} {E0 : XK} : UM K (rM1 (clA K C) (spM K 1 G) E0) (ownF1 C G) := fun {μ Hd H σ E x vx z E'} R hv e Q q => by
  unfold ownF1 at e
  split at e
  · rename_i C' ns ds e1
    split at e
    · rename_i hc
      subst hc
      split at e
      · rename_i z ce e2
        cases e
        obtain ⟨a, dx, fs, rfl, h2, h3, h4⟩ := see_obj R.wo hv e1
        exact ⟨a, dx, fs, rfl, h2, rfl, μ, Hd, E.ce, [x], _, ce, R.wo, .cons hv .nil, e2, fun μ1 Hd1 H1 v g1 w1 r1 => q μ1 Hd1 H1 v g1 ⟨w1, R.sl.gr g1⟩ r1⟩
      · cases e
    · cases e
  · cases e
theorem om_own {C : Str} {G : Fn} {E0 : XK} : OM K (rM2 (clA K C) (spM K 2 G) E0) (ownF2 C G) := fun {μ Hd H σ E x y vx vy z E'} R hx hy e Q q => by
  unfold ownF2 at e
  split at e
  · rename_i C1 n1 d1 C2 n2 d2 e1 e3
    split at e
    · rename_i hc
      obtain ⟨rfl, rfl⟩ := hc
      split at e
      · rename_i z ce e2
        cases e
        obtain ⟨a, dx, fs, rfl, h2, h3, h4⟩ := see_obj R.wo hx e1
        obtain ⟨b, dy, gs, rfl, k2, k3, k4⟩ := see_obj R.wo hy e3
        exact ⟨a, dx, fs, b, dy, gs, rfl, rfl, h2, k2, rfl, μ, Hd, E.ce, [x, y], _, ce, R.wo, .cons hx (.cons hy .nil), e2, fun μ1 Hd1 H1 v g1 w1 r1 => q μ1 Hd1 H1 v g1 ⟨w1, R.sl.gr g1⟩ r1⟩
      · cases e
    · cases e
  · cases e
end
section
variable {X : Cx} {CX : CXT} {k : Nat} {C f : Addr} {fd : FuncData} {ps : List Str} {sp : Sp} {E : XK}
theorem cmpBack_of {pins : List (Addr × Obj)} {σ : L2.St} {Q : VK} {u : Value} {s : Shared} (h : EP X pins σ Q u s) : PySem.W.CmpBack (EP X pins σ Q) u s := by
  cases u <;> first | exact h | skip
  obtain ⟨v, H', I, r, q⟩ := h
  cases v with
  | int i =>
    obtain ⟨t, e⟩ := r
    cases e
  | str i =>
    obtain ⟨t, e⟩ := r
    cases e
  | byt i =>
    obtain ⟨t, e⟩ := r
    cases e
  | flt i =>
    obtain ⟨t, e⟩ := r
    cases e
  | _ => cases r
theorem inst_at {pins : List (Addr × Obj)} {σ : L2.St} {H : Hp} {s : Shared} {a dx : Addr} {fs : List (Str × V)} (I : Inv X pins σ H s) (e : H a = some (.ins C dx fs)) : ∃ od, PySem.W.InstAt s.heap a (PySem.W.instObj C dx) C (some od) := by
  obtain ⟨mA, J, _⟩ := ins_get I.hok e
  obtain ⟨od, J, _⟩ := J.look
  exact ⟨od, J⟩
section
variable (F : FnOk X.prog X.w X.K X.mg X.base CX k f fd ps sp) (hr : Room k X.A) (hb : Binds X.K fd ps []) (hx : Passes CX X E)
include F hr hb hx
theorem un_inv_own (hm : Meth X.K C "__invert__" f) (hf : PySem.W.isFn X.K (.ref f) = true) : UnR X (unaryOp .Invert) (rM1 C sp E) := by
  rintro pins s σ H x v Q I rx ⟨a, dx, fs, rfl, ha, h⟩
  cases rx
  obtain ⟨od, J⟩ := inst_at I ha
  obtain ⟨m, hF⟩ := I.fr
  exact PySem.W.ksp_inv hF I.ok.mod.kin J hm.at_ hf (L2.run_fn (us := [.ref a]) (vs := [.ref a]) F hr hb .nil hx I (.cons rfl .nil) h)
theorem un_pos_own (hm : Meth X.K C "__pos__" f) (hf : PySem.W.isFn X.K (.ref f) = true) : UnR X (unaryOp .UAdd) (rM1 C sp E) := by
  rintro pins s σ H x v Q I rx ⟨a, dx, fs, rfl, ha, h⟩
  cases rx
  obtain ⟨od, J⟩ := inst_at I ha
  obtain ⟨m, hF⟩ := I.fr
  exact PySem.W.ksp_pos hF I.ok.mod.kin J hm.at_ hf (L2.run_fn (us := [.ref a]) (vs := [.ref a]) F hr hb .nil hx I (.cons rfl .nil) h)
theorem op_own {op : Operator} (hs : PySem.W.selfFirst X.K C = true) (hm : PySem.W.findIn X.K (.ref C) (PySem.dunder op.info.2) = some (some (.ref f))) (hf : PySem.W.isFn X.K (.ref f) = true) : OpR X (binaryOp op) (rM2 C sp E) := by
  rintro pins s σ H x y v u Q I rx ry ⟨a, dx, fs, b, dy, gs, rfl, rfl, ha, hb2, h⟩
  cases rx
  cases ry
  obtain ⟨od, J⟩ := inst_at I ha
  obtain ⟨od2, J2⟩ := inst_at I hb2
  obtain ⟨m, hF⟩ := I.fr
  exact PySem.W.binop_K hF I.ok.mod.kin J J2.type hs hm hf (wpAny_mono (L2.run_fn (us := [.ref a, .ref b]) (vs := [.ref a, .ref b]) F hr hb .nil hx I (.cons rfl (.cons rfl .nil)) h) (fun u s' q => cmpBack_of q) fun _ _ z => z)
theorem eq_own (hm : Meth X.K C "__eq__" f) (hf : PySem.W.isFn X.K (.ref f) = true) : OpR X (compareOp .Eq) (rM2 C sp E) := by
  rintro pins s σ H x y v u Q I rx ry ⟨a, dx, fs, b, dy, gs, rfl, rfl, ha, hb2, h⟩
  cases rx
  cases ry
  obtain ⟨od, J⟩ := inst_at I ha
  obtain ⟨od2, J2⟩ := inst_at I hb2
  obtain ⟨m, hF⟩ := I.fr
  exact PySem.W.cmp_K (op := .Eq) hr.units0 hF I.ok.mod.kin J J2.type (by simp [PySem.W.notFirst]) hm.at_ hf (wpAny_mono (L2.run_fn (us := [.ref a, .ref b]) (vs := [.ref a, .ref b]) F hr hb .nil hx I (.cons rfl (.cons rfl .nil)) h) (fun u s' q => cmpBack_of q) fun _ _ z => z)
end
end
end Hk
/-! Hk10: the rules of objects with their syntax; written constants; targets; texts. -/
namespace Hk
open PySem PySem.Spec PyProof.Rows L2 Evl

/-- what the text says of an own class -/
structure OwnC (K : PySem.W.Frag) (C : Addr) : Prop where
  cl : Cls K C
  ha : PySem.W.findIn K (.ref C) "__class__" = some (some (.builtin "object.__class__"))
  hn : PySem.W.specialIn K (.builtin "object.__class__") "__get__" = some (some (.builtin "getset_descriptor.__get__"))
  htk : PySem.W.takesIn K (.builtin "object.__class__") = some true
  hm : PySem.W.mroIn K C (.type "object") = some true
  sf : PySem.W.selfFirst K C = true
section
variable {X : Cx} {a b c e o value : Expr} {ta tb te to tv : TE} {ma mb m mo mv : M Vl} {es : List Expr} {tes : TA} {mes : M (List Vl)} {pos pos' p p2 p3 apos : Pos} {C f x : Str} {n k : Nat} {fa : Addr} {fd : FuncData} {ps : List Str} {G : Fn} {CX : CXT} {E : XK}
theorem xfld (c : OwnC X.K (clA X.K C)) (n : NoAttr X.K (clA X.K C) f) (h : Ex_ X e te m) (hb : attributeBase e f X.env (eval e X.env) = eval e X.env := by rfl) : Ex_ X (.Attribute e f pos) (tFld X.K te f) (fldM C f m) := ⟨pe_fld h.pe hb, em_fld c.cl n h.em⟩
theorem ssetF (c : OwnC X.K (clA X.K C)) (n : NoAttr X.K (clA X.K C) f) (hv : Ex_ X value tv mv) (ho : Ex_ X o to mo) (hs : swapsWith value (some (.Attribute o f pos')) pos.line X.env = pure false := by rfl) : Sx X (.Assign [.Attribute o f pos'] value pos) (sFld X.K to tv f) (setFS C f mv mo) := ⟨ps_fld ho.pe hv.pe hs, sm_fld c.cl n hv.em ho.em⟩
theorem xmake (M : Mk X.K (clA X.K x) fa) (F : FnOk X.prog X.w X.K X.mg X.base CX k fa fd ps (spM X.K (n + 1) G)) (hr : Room (k + 1) X.A) (hm : X.mg x = some (.ref (clA X.K x))) (hb : Binds X.K fd ps [])
    (ha : Ax X (e :: es) tes mes) (hn : ∀ (E : En) (rs : List Vl) (E' : En), mes E = some (rs, E') → rs.length = n) (hx : Passes CX X E) (hg : Gl X x := by rfl) (hdb : (x == ("__debug__" : Str)) = false := by decide)
    (he : starEach (e :: es) X.env = (false, eval e X.env) :: starEach es X.env := by rfl) (hpl : (backTo pos (starEach es X.env)).any (·.1) = false := by rfl) :
    Ex_ X (.Call (.Name x p) (e :: es) [] pos) (tMake (clA X.K x) (spM X.K (n + 1) G) [] E tes) (makeM x G mes) := ⟨pe_make M F hr hg hm hb .nil hx ha.pa hdb he hpl, em_make hn ha.am⟩
theorem xmeth {m : Str} {pl : Sem Bool} (c : OwnC X.K (clA X.K C)) (hm : Meth X.K (clA X.K C) m fa) (F : FnOk X.prog X.w X.K X.mg X.base CX k fa fd ps (spM X.K (n + 1) G)) (hr : Room k X.A) (hb : Binds X.K fd ps []) (ho : Ex_ X o to mo) (ha : Ax X (e :: es) tes mes)
    (hn : ∀ (E : En) (rs : List Vl) (E' : En), mes E = some (rs, E') → rs.length = n) (hx : Passes CX X E)
    (hst : starEach (e :: es) X.env = (false, eval e X.env) :: starEach es X.env := by rfl) (hpl : (backTo pos (starEach es X.env)).any (·.1) = false := by rfl)
    (ht : eval (.Call (.Attribute o m apos) (e :: es) [] pos) X.env = (do
      let ov ← eval o X.env
      standAt apos.atName
      let (f, first) ← holding [ov] (getMethod ov m pl)
      callWith pos f first (backTo pos (starEach (e :: es) X.env)) (backToKw pos (keywordEach [] X.env))) := by rfl) :
    Ex_ X (.Call (.Attribute o m apos) (e :: es) [] pos) (tMeth (clA X.K C) m (spM X.K (n + 1) G) [] E to tes) (methM C m G mo mes) := ⟨pe_meth ho.pe c.cl hm F hr hb .nil hx ha.pa hst hpl ht, em_meth hn ho.em ha.am⟩
theorem xmeth0 {m : Str} {pl : Sem Bool} (c : OwnC X.K (clA X.K C)) (hm : Meth X.K (clA X.K C) m fa) (F : FnOk X.prog X.w X.K X.mg X.base CX k fa fd ps (spM X.K 1 G)) (hr : Room k X.A) (hb : Binds X.K fd ps []) (ho : Ex_ X o to mo) (hx : Passes CX X E)
    (ht : eval (.Call (.Attribute o m apos) [] [] pos) X.env = (do
      let ov ← eval o X.env
      standAt apos.atName
      let (f, first) ← holding [ov] (getMethod ov m pl)
      callWith pos f first (backTo pos (starEach [] X.env)) (backToKw pos (keywordEach [] X.env))) := by rfl) :
    Ex_ X (.Call (.Attribute o m apos) [] [] pos) (tMeth (clA X.K C) m (spM X.K 1 G) [] E to tNil) (methM C m G mo (retM [])) := ⟨pe_meth0 ho.pe c.cl hm F hr hb .nil hx ht, em_meth (n := 0) (nil_len rfl) ho.em anil.am⟩
theorem em_un {r : V → Hp → VK → Prop} {g : Vl → M Vl} {K : PySem.W.Frag} (hu : UM K r g) (ha : EM K ta ma) : EM K (tUn r ta) (bindM ma g) := fun {μ Hd H σ E z E'} R e Q q => by
  obtain ⟨v, E1, e1, e2⟩ := bindM_some e
  refine ha R e1 _ fun μ1 Hd1 H1 vx g1 R1 r1 => ?_
  exact hu R1 r1 e2 Q fun μ2 Hd2 H2 v g2 R2 r2 => q μ2 Hd2 H2 v (g1.trans g2) R2 r2
theorem isFn_of {m : Str} (hm : Meth X.K (clA X.K C) m fa) : PySem.W.isFn X.K (.ref fa) = true := hm.fn
theorem xinv (hm : Meth X.K (clA X.K C) "__invert__" fa) (F : FnOk X.prog X.w X.K X.mg X.base CX k fa fd ps (spM X.K 1 G)) (hr : Room k X.A) (hb : Binds X.K fd ps []) (ha : Ex_ X a ta ma) (hx : Passes CX X E) :
    Ex_ X (.UnaryOp .Invert a pos) (tUn (rM1 (clA X.K C) (spM X.K 1 G) E) ta) (bindM ma (ownF1 C G)) := ⟨pe_un (un_inv_own F hr hb hx hm hm.fn) ha.pe, em_un um_own ha.em⟩
theorem xpos (hm : Meth X.K (clA X.K C) "__pos__" fa) (F : FnOk X.prog X.w X.K X.mg X.base CX k fa fd ps (spM X.K 1 G)) (hr : Room k X.A) (hb : Binds X.K fd ps []) (ha : Ex_ X a ta ma) (hx : Passes CX X E) :
    Ex_ X (.UnaryOp .UAdd a pos) (tUn (rM1 (clA X.K C) (spM X.K 1 G) E) ta) (bindM ma (ownF1 C G)) := ⟨pe_un (un_pos_own F hr hb hx hm hm.fn) ha.pe, em_un um_own ha.em⟩
theorem xown {op : Operator} {m : Str} (c : OwnC X.K (clA X.K C)) (hm : Meth X.K (clA X.K C) m fa) (F : FnOk X.prog X.w X.K X.mg X.base CX k fa fd ps (spM X.K 2 G)) (hr : Room k X.A) (hb : Binds X.K fd ps []) (ha : Ex_ X a ta ma) (hb2 : Ex_ X b tb mb) (hx : Passes CX X E) (ho : m = PySem.dunder op.info.2 := by rfl) :
    Ex_ X (.BinOp a op b pos) (tOp (rM2 (clA X.K C) (spM X.K 2 G) E) ta tb) (bindM ma fun x => bindM mb (ownF2 C G x)) := ⟨pe_op (op_own F hr hb hx c.sf (ho ▸ hm.at_) hm.fn) ha.pe hb2.pe, em_op om_own ha.em hb2.em⟩
/-- == of two of the class -/
theorem teqO (hm : Meth X.K (clA X.K C) "__eq__" fa) (F : FnOk X.prog X.w X.K X.mg X.base CX k fa fd ps (spM X.K 2 G)) (hr : Room k X.A) (hb : Binds X.K fd ps []) (ha : Ex_ X a ta ma) (hb2 : Ex_ X b tb mb) (hx : Passes CX X E) (hk : behindInMarks .Eq b = false := by rfl) :
    Tx X (.Compare a [.Eq] [b] pos) (tTest (tOp (rM2 (clA X.K C) (spM X.K 2 G) E) ta tb)) (bindM (bindM ma fun x => bindM mb (ownF2 C G x)) boolM) := tcmp (eq_own F hr hb hx hm hm.fn) om_own ha hb2 hk
/-! ### len by the own method -/
def rLenO (C : Addr) (sp : Sp) (E : XK) : List V → Hp → VK → Prop := fun xs H Q => ∃ a dx fs, xs = [.ref a] ∧ H a = some (.ins C dx fs) ∧ sp [.ref a] H (fun v H' => ∃ n : Int, v = .int n ∧ 0 ≤ n ∧ n < 2 ^ 63 ∧ Q (.int n) H') E
theorem call_lenO {C : Addr} {sp : Sp} (hm : Meth X.K C "__len__" fa) (F : FnOk X.prog X.w X.K X.mg X.base CX k fa fd ps sp) (hr : Room (k + 1) X.A) (hb : Binds X.K fd ps []) (hx : Passes CX X E) : CallR X (.builtin "len") (rLenO C sp E) := by
  rintro pins s σ H xs us Q I r ⟨a, dx, fs, rfl, ha, h⟩
  obtain ⟨u, rfl, ru⟩ := vals1 r
  cases (show u = Value.ref a from ru)
  obtain ⟨od, J⟩ := inst_at I ha
  obtain ⟨m, hF⟩ := I.fr
  refine PySem.W.len_K hF I.ok.mod.kin J hm.at_ hm.fn ?_
  have hl := F.len _ _ _ _ h
  have e0 : Env0 X.prog X.w X.K X.mg X.base X.A.in1 X.stack s H := I.env0.in1
  refine wpAny_call (codeAny_mono (F.run X.A.in1 X.stack s H ⟨[.ref a], []⟩ [.ref a] [.ref a] _ E hr.in1 e0 (by
    have := hb s [.ref a] I.kIn (by simpa using hl)
    simpa using this) (.cons rfl .nil) h) fun r s' hq => ?_)
  cases r with
  | error e => exact hx pins σ H s e s' I hq
  | ok fl =>
    cases fl with
    | ret w =>
      obtain ⟨z, H', I', rz, n, rfl, h1, h2, q⟩ := I.after hq
      obtain ⟨t, e⟩ := rz
      subst e
      exact ⟨⟨h1, h2⟩, .int n, H', I'.tok _, ⟨_, rfl⟩, q⟩
    | next => exact False.elim hq
    | brk => exact False.elim hq
    | cont => exact False.elim hq
def lenOF (C : Str) (G : Fn) : List Vl → M Vl := fun xs => match xs with
  | [x] => bindM (ownF1 C G x) fun r => match r with
    | .d (.int n) => if 0 ≤ n ∧ n < 2 ^ 63 then retM (.d (.int n)) else failM
    | _ => failM
  | _ => failM
theorem cm_lenO {K : PySem.W.Frag} {C : Str} {E0 : XK} : CM K (rLenO (clA K C) (spM K 1 G) E0) (lenOF C G) := fun {μ Hd H σ E xs vs z E'} R hxs e Q q => by
  unfold lenOF at e
  split at e
  · rename_i x
    obtain ⟨r, E1, e1, e2⟩ := bindM_some e
    split at e2
    · rename_i n
      split at e2
      · rename_i hn
        cases e2
        obtain ⟨v, rfl, hv⟩ := hxs.one
        unfold ownF1 at e1
        split at e1
        · rename_i C' ns ds e3
          split at e1
          · rename_i hc
            subst hc
            split at e1
            · rename_i z ce e4
              cases e1
              obtain ⟨a, dx, fs, rfl, h2, h3, h4⟩ := see_obj R.wo hv e3
              exact ⟨a, dx, fs, rfl, h2, rfl, μ, Hd, E.ce, [x], _, ce, R.wo, .cons hv .nil, e4, fun μ1 Hd1 H1 v g1 w1 r1 => ⟨n, r1, hn.1, hn.2, q μ1 Hd1 H1 _ g1 ⟨w1, R.sl.gr g1⟩ rfl⟩⟩
            · cases e1
          · cases e1
        · cases e1
      · cases e2
    · cases e2
  · cases e
theorem xlenO (hm : Meth X.K (clA X.K C) "__len__" fa) (F : FnOk X.prog X.w X.K X.mg X.base CX k fa fd ps (spM X.K 1 G)) (hr : Room (k + 1) X.A) (hb : Binds X.K fd ps []) (hl : X.mg "len" = none) (ha : Ax X (e :: es) tes mes) (hx : Passes CX X E) (hg : Gl X "len" := by rfl)
    (he : starEach (e :: es) X.env = (false, eval e X.env) :: starEach es X.env := by rfl) (hpl : (backTo pos (starEach es X.env)).any (·.1) = false := by rfl) :
    Ex_ X (.Call (.Name "len" p) (e :: es) [] pos) (tCB (rLenO (clA X.K C) (spM X.K 1 G) E) tes) (bindM mes (lenOF C G)) := xblt (call_lenO hm F hr hb hx) cm_lenO hl PySem.boot_len ha hg (by decide) (by decide) he hpl
/-! ### isinstance of an own class -/
def isiOF (C : Str) : Dt → Option Dt
  | .obj C' _ _ => if C' = C then some (.bl true) else none
  | _ => none
theorem em_isiO {K : PySem.W.Frag} {C : Str} (c : OwnC K (clA K C)) (ha : EM K ta ma) : EM K (tCB (rIsi K) (tCons ta (tCons (tC (.ref (clA K C))) tNil))) (bindM ma (seeF (isiOF C))) := fun {μ Hd H σ E r E'} R e Q q => by
  obtain ⟨x, E1, e1, e2⟩ := bindM_some e
  obtain ⟨d, z, e3, e4, rfl, rfl⟩ := seeF_some e2
  refine ha R e1 _ fun μ1 Hd1 H1 v g1 R1 r1 => ?_
  cases d with
  | obj C' ns ds =>
    have e4 : (if C' = C then some (Dt.bl true) else none) = some z := e4
    by_cases hc : C' = C
    · subst hc
      rw [if_pos rfl] at e4
      cases e4
      obtain ⟨a, dx, fs, rfl, h2, h3, h4⟩ := see_obj R1.wo r1 e3
      exact ⟨.ref a, .ref (clA K C'), .ref (clA K C'), .ref (clA K C'), true, rfl, .own _, .base (.ins h2 c.cl c.ha c.hn c.htk c.hm), by simp [PySem.W.kitOne], q _ _ _ _ g1 R1 rfl⟩
    · rw [if_neg hc] at e4
      cases e4
  | _ => cases e4
theorem xisO (hm : X.mg "isinstance" = none) (c : OwnC X.K (clA X.K x)) (ha : Ex_ X a ta ma) (hmx : X.mg x = some (.ref (clA X.K x))) (hg : Gl X "isinstance" := by rfl) (hgx : Gl X x := by rfl) (hdb : (x == ("__debug__" : Str)) = false := by decide)
    (h1 : starEach [a, .Name x p2] X.env = (false, eval a X.env) :: starEach [.Name x p2] X.env := by rfl) (h2 : starEach [.Name x p2] X.env = [(false, eval (.Name x p2) X.env)] := by rfl) (h3 : (backTo pos (starEach [.Name x p2] X.env)).any (·.1) = false := by rfl) :
    Ex_ X (.Call (.Name "isinstance" p) [a, .Name x p2] [] pos) (tCB (rIsi X.K) (tCons ta (tCons (tC (.ref (clA X.K x))) tNil))) (bindM ma (seeF (isiOF x))) :=
  ⟨pe_callB call_isi hg hm (by decide +kernel) (pa_cons ha.pe (pa_cons (pe_glob hgx hmx (v := .ref (clA X.K x)) rfl hdb) pa_nil h2) h1) (by decide) (by decide) h1 h3, em_isiO c ha.em⟩
theorem xisi2 {x y : Str} {n1 n2 : String} {pt : Pos} {kt : _} (hm : X.mg "isinstance" = none) (ha : Ex_ X a ta ma) (hmx : X.mg x = none) (hmy : X.mg y = none) (hv : bootBuiltins x = some (.type n1)) (hw : bootBuiltins y = some (.type n2)) (hg : Gl X "isinstance" := by rfl) (hgx : Gl X x := by rfl) (hgy : Gl X y := by rfl)
    (hn : x ≠ "__name__" := by decide) (hdb : (x == ("__debug__" : Str)) = false := by decide) (hn2 : y ≠ "__name__" := by decide) (hdb2 : (y == ("__debug__" : Str)) = false := by decide)
    (h1 : starEach [a, .Tuple [.Name x p2, .Name y p3] kt pt] X.env = (false, eval a X.env) :: starEach [.Tuple [.Name x p2, .Name y p3] kt pt] X.env := by rfl)
    (h2 : starEach [.Tuple [.Name x p2, .Name y p3] kt pt] X.env = [(false, eval (.Tuple [.Name x p2, .Name y p3] kt pt) X.env)] := by rfl)
    (h4 : starEach [.Name x p2, .Name y p3] X.env = (false, eval (.Name x p2) X.env) :: starEach [.Name y p3] X.env := by rfl) (h5 : starEach [.Name y p3] X.env = [(false, eval (.Name y p3) X.env)] := by rfl)
    (h3 : (backTo pos (starEach [.Tuple [.Name x p2, .Name y p3] kt pt] X.env)).any (·.1) = false := by rfl) :
    Ex_ X (.Call (.Name "isinstance" p) [a, .Tuple [.Name x p2, .Name y p3] kt pt] [] pos) (tCB (rIsiT X.K) (tCons ta (tCons (tTup (tCons (tC (.ty n1)) (tCons (tC (.ty n2)) tNil))) tNil))) (bindM ma (seeF (isi2F n1 n2))) :=
  ⟨pe_callB call_isiT hg hm (by decide +kernel) (pa_cons ha.pe (pa_cons (pe_tup (pa_cons (pe_bltn hgx hmx hv (v := .ty n1) rfl hn hdb) (pa_cons (pe_bltn hgy hmy hw (v := .ty n2) rfl hn2 hdb2) pa_nil h5) h4)) pa_nil h2) h1) (by decide) (by decide) h1 h3, em_isi2 ha.em⟩
/-! ### written constants -/
theorem xgint {i : Int} {x : Str} {u : Value} (hm : X.mg x = some u) (hr : RelV (.int i) u) (hg : Gl X x := by rfl) (hdb : (x == ("__debug__" : Str)) = false := by decide) : Ex_ X (.Name x pos) (tC (.int i)) (retM (.d (.int i))) := ⟨pe_glob hg hm hr hdb, em_c (d := .int i) fun _ => (rfl : V.int i = .int i)⟩
/-- a written thing that is data in any heap -/
theorem xgdat {d : Dt} {x : Str} {ad : Addr} (hm : X.mg x = some (.ref ad)) (hr : ∀ H, Rp X.K H d (.ref ad)) (hg : Gl X x := by rfl) (hdb : (x == ("__debug__" : Str)) = false := by decide) : Ex_ X (.Name x pos) (tC (.ref ad)) (retM (.d d)) := ⟨pe_glob hg hm (v := .ref ad) rfl hdb, em_c hr⟩
/-- a written dict with text keys: what stands at some keys -/
def look2 (z : Str) : List (Str × Dt) → Option Dt
  | [] => none
  | (k, d) :: r => if z = k then some d else look2 z r
structure WDic (K : PySem.W.Frag) (w : World) (d : Addr) (tb : List (Str × Dt)) : Prop where
  at_ : ∃ es n, KDict K w d es n
  tab : ∀ (z : Str) (v : Dt), look2 z tb = some v → ∃ u y, PySem.W.nsIn K d z = some (some u) ∧ RelV y u ∧ ∀ H, Rp K H v y
def ixDM (tb : List (Str × Dt)) (mb : M Vl) : M Vl := bindM mb fun y => match y with
  | .d (.str z) => fun E => (look2 z tb).map fun d => (.d d, E)
  | _ => failM
theorem em_ixD {K : PySem.W.Frag} {w : World} {d : Addr} {tb0 : List (Str × Dt)} (D : WDic K w d tb0) (hb : EM K tb mb) : EM K (tOp (rIxD K w) (tC (.ref d)) tb) (ixDM tb0 mb) := fun {μ Hd H σ E r E'} R e Q q => by
  obtain ⟨y, E1, e1, e2⟩ := bindM_some e
  split at e2
  · rename_i z
    cases e3 : look2 z tb0 with
    | none =>
      rw [e3] at e2
      cases e2
    | some v =>
      rw [e3] at e2
      cases e2
      refine hb R e1 _ fun μ1 Hd1 H1 vy g1 R1 r1 => ?_
      cases (show vy = .str z from r1)
      obtain ⟨es, n, kd⟩ := D.at_
      obtain ⟨u, y, h1, h2, h3⟩ := D.tab z v e3
      exact ⟨d, z, y, rfl, rfl, ⟨es, n, u, kd.at_, kd.lit, h1, h2⟩, q μ1 Hd1 H1 y g1 R1 (h3 Hd1)⟩
  · cases e2
theorem xixD {x : Str} {d : Addr} {tb0 : List (Str × Dt)} (D : WDic X.K X.w d tb0) (hm : X.mg x = some (.ref d)) (hb : Ex_ X b tb mb) (hs : PlainIx b := by intro _ _; rfl) (hg : Gl X x := by rfl) (hdb : (x == ("__debug__" : Str)) = false := by decide) :
    Ex_ X (.Subscript (.Name x p) b pos) (tOp (rIxD X.K X.w) (tC (.ref d)) tb) (ixDM tb0 mb) := ⟨pe_ix ix_kdict (pe_glob hg hm (v := .ref d) rfl hdb) hb.pe hs, em_ixD D hb.em⟩
def inDM (neg : Bool) (tb : List (Str × Dt)) (ma : M Vl) : M Vl := bindM ma fun y => match y with
  | .d (.str z) => fun E => (look2 z tb).map fun _ => (.d (.bl (!neg)), E)
  | _ => failM
theorem inDM_some {neg : Bool} {tb : List (Str × Dt)} {ma : M Vl} {E E' : En} {r : Vl} (e : inDM neg tb ma E = some (r, E')) : ∃ z v, ma E = some (.d (.str z), E') ∧ look2 z tb = some v ∧ r = .d (.bl (!neg)) := by
  obtain ⟨y, E1, e1, e2⟩ := bindM_some e
  split at e2
  · rename_i z
    cases e3 : look2 z tb with
    | none =>
      rw [e3] at e2
      cases e2
    | some v =>
      rw [e3] at e2
      cases e2
      exact ⟨z, v, e1, e3, rfl⟩
  · cases e2
theorem tinD {x : Str} {d : Addr} {tb0 : List (Str × Dt)} (D : WDic X.K X.w d tb0) (hm : X.mg x = some (.ref d)) (ha : Ex_ X a ta ma) (hk : behindInMarks .In (.Name x p) = false := by rfl) (hg : Gl X x := by rfl) (hdb : (x == ("__debug__" : Str)) = false := by decide) :
    Tx X (.Compare a [.In] [.Name x p] pos) (tTest (tOp (fun x y H Q => ∃ (z : Str) (r : Option Value), x = .str z ∧ y = .ref d ∧ PySem.W.nsIn X.K d z = some r ∧ Q (.bl r.isSome) H) ta (tC (.ref d)))) (bindM (inDM false tb0 ma) boolM) :=
  ⟨pt_cmpR (by
    obtain ⟨es, n, kd⟩ := D.at_
    exact op_in_kd kd) ha.pe (pe_glob hg hm (v := .ref d) rfl hdb) hk, tm_test fun {μ Hd H σ E r E'} R e Q q => by
    obtain ⟨z, v, e1, e2, rfl⟩ := inDM_some e
    refine ha.em R e1 _ fun μ1 Hd1 H1 vy g1 R1 r1 => ?_
    obtain ⟨u, y, h1, h2, h3⟩ := D.tab z v e2
    exact ⟨z, some u, r1, rfl, h1, q μ1 Hd1 H1 _ g1 R1 rfl⟩⟩
theorem tninD {x : Str} {d : Addr} {tb0 : List (Str × Dt)} (D : WDic X.K X.w d tb0) (hm : X.mg x = some (.ref d)) (ha : Ex_ X a ta ma) (hk : behindInMarks .NotIn (.Name x p) = false := by rfl) (hg : Gl X x := by rfl) (hdb : (x == ("__debug__" : Str)) = false := by decide) :
    Tx X (.Compare a [.NotIn] [.Name x p] pos) (tTest (tOp (fun x y H Q => ∃ (z : Str) (r : Option Value), x = .str z ∧ y = .ref d ∧ PySem.W.nsIn X.K d z = some r ∧ Q (.bl (!r.isSome)) H) ta (tC (.ref d)))) (bindM (inDM true tb0 ma) boolM) :=
  ⟨pt_cmpR (by
    obtain ⟨es, n, kd⟩ := D.at_
    exact op_notIn_kd kd) ha.pe (pe_glob hg hm (v := .ref d) rfl hdb) hk, tm_test fun {μ Hd H σ E r E'} R e Q q => by
    obtain ⟨z, v, e1, e2, rfl⟩ := inDM_some e
    refine ha.em R e1 _ fun μ1 Hd1 H1 vy g1 R1 r1 => ?_
    obtain ⟨u, y, h1, h2, h3⟩ := D.tab z v e2
    exact ⟨z, some u, r1, rfl, h1, q μ1 Hd1 H1 _ g1 R1 rfl⟩⟩
/-! ### a, b, c = value -/
structure Gsx (X : Cx) (es : List Expr) (t : TGs) (gs : List (Vl → En → Option En)) : Prop where
  pg : PGs X es t
  gm : GsM X.K t gs
theorem gsnil : Gsx X [] gNil [] := ⟨pgs_nil, gsm_nil⟩
theorem gscons {t : TG} {u : TGs} {g : Vl → En → Option En} {gs : List (Vl → En → Option En)} (h1 : Gx X e t g) (h2 : Gsx X es u gs) (hs : (assignEach (e :: es) X.env).map (·.2) = assign e X.env :: (assignEach es X.env).map (·.2) := by rfl) : Gsx X (e :: es) (gCons t u) (g :: gs) := ⟨pgs_cons h1.pg h2.pg hs, gsm_cons h1.gm h2.gm⟩
theorem gtupX {t : TGs} {gs : List (Vl → En → Option En)} {n k : Nat} (hc : X.calm = true) (h : Gsx X es t gs) (hl : gs.length = n) (hn : (assignEach es X.env).length = n := by rfl) (hst : (assignEach es X.env).findIdx? (·.1) = none := by rfl) : Gx X (.Tuple es k pos) (gTup X.K n t) (tupG gs) := ⟨pg_tup hc h.pg hn hst, gm_tup hl h.gm⟩
def asgS (m : M Vl) (g : Vl → En → Option En) : En → Option Rs := fun E => match m E with
  | some (r, E1) => match g r E1 with
    | some E2 => some (.nx E2)
    | none => none
  | none => none
theorem sasg {tg : Expr} {g : TG} {gm : Vl → En → Option En} (h : Ex_ X e te m) (hg : Gx X tg g gm) (hs : swapsWithSole [tg] e pos.line X.env = pure false := by rfl) (hw : swappedStores [tg] e X.env = pure none := by rfl)
    (h1 : (assignEach [tg] X.env).map (·.2) = [assign tg X.env] := by rfl) : Sx X (.Assign [tg] e pos) (tAsg te g) (asgS m gm) := ⟨ps_asg h.pe hg.pg hs hw h1, fun {μ Hd H σ E R} r q D d => by
  unfold asgS at q
  split at q
  · rename_i v E1 e1
    split at q
    · rename_i E2 e2
      cases q
      exact h.em r e1 _ fun μ1 Hd1 H1 x g1 R1 r1 => hg.gm R1 r1 e2 _ fun μ2 Hd2 H2 σ2 g2 R2 => d μ2 Hd2 H2 σ2 (g1.trans g2) R2
    · cases q
  · cases q⟩
/-! ### iterating a text -/
def chrs (s : Str) : List Dt := s.cps.toList.map fun c => .str ⟨#[c]⟩
def strM (m : M Vl) : M (List Dt) := bindM m fun r => match r with
  | .d (.str s) => retM (chrs s)
  | _ => failM
theorem serves_s {K : PySem.W.Frag} {Hd : Hp} (s : Str) : Serves (Its s) K Hd (chrs s) := fun Hd1 H1 i e1 e2 => by
  have hl : (chrs s).length = s.cps.size := by simp [chrs]
  refine ⟨fun h => by rw [hl] at h; exact h, fun d hd => ?_⟩
  have hi : i < s.cps.size := by
    have := (List.getElem?_eq_some_iff.mp hd).1
    omega
  refine ⟨hi, fun x H' ⟨q1, q2⟩ => ⟨Hd1, .inl ⟨q1, rfl⟩, ?_⟩⟩
  obtain ⟨c, hc, rfl⟩ := q2
  have e : d = .str ⟨#[c]⟩ := by
    unfold chrs at hd
    rw [List.getElem?_map, Array.getElem?_toList, hc] at hd
    exact (Option.some.inj hd).symm
  subst e
  exact rfl
theorem istr {tg iter : Expr} (h : Ex_ X iter te m) : Ix_ X tg iter (iStr te) (strM m) := ⟨pi_str h.pe, fun {μ Hd H σ E ds E'} R e Q q => by
  obtain ⟨r, E1, e1, e2⟩ := bindM_some e
  split at e2
  · rename_i s
    cases e2
    exact h.em R e1 _ fun μ1 Hd1 H1 v g1 R1 r1 => ⟨s, r1, q μ1 Hd1 H1 _ g1 R1 (serves_s s)⟩
  · cases e2⟩
/-! ### range(i, j, -1) -/
def rngD (hi : Int) (n : Nat) : List Dt := (List.range n).map fun (i : Nat) => .int (hi + (i : Nat) * (-1))
theorem serves_rd {K : PySem.W.Frag} {Hd : Hp} (lo : Int) (n : Nat) : Serves (Itc lo (-1) n) K Hd (rngD lo n) := fun Hd1 H1 i e1 e2 => by
  have hl : (rngD lo n).length = n := by simp [rngD]
  refine ⟨fun h => by rw [hl] at h; exact h, fun d hd => ?_⟩
  have hi : i < n := by
    have := (List.getElem?_eq_some_iff.mp hd).1
    omega
  refine ⟨hi, fun x H' ⟨q1, q2⟩ => ⟨Hd1, .inl ⟨q1, rfl⟩, ?_⟩⟩
  have e : d = .int (lo + (i : Nat) * (-1)) := by
    unfold rngD at hd
    rw [List.getElem?_map, List.getElem?_range hi] at hd
    exact (Option.some.inj hd).symm
  subst e q2
  exact rfl
def rng3M (m : M (List Vl)) : M (List Dt) := bindM m fun rs => match rs with
  | [.d (.int i), .d (.int j), .d (.int c)] => fun E => if -(2 ^ 62) ≤ i ∧ i < 2 ^ 62 ∧ -(2 ^ 62) ≤ j ∧ j < 2 ^ 62 ∧ c = -1 then some (rngD i (i - j).toNat, E) else none
  | _ => failM
theorem irng3 {tg : Expr} (hm : X.mg "range" = none) (ha : Ax X [a, b, c] tes mes) (hg : Gl X "range" := by rfl) (hs : starEach [a, b, c] X.env = (false, eval a X.env) :: starEach [b, c] X.env := by rfl) (hpl : (backTo pos (starEach [b, c] X.env)).any (·.1) = false := by rfl) :
    Ix_ X tg (.Call (.Name "range" p) [a, b, c] [] pos) (iRng3 tes) (rng3M mes) := ⟨pi_range3 hg hm ha.pa hs hpl, fun {μ Hd H σ E ds E'} R e Q q => by
  obtain ⟨rs, E1, e1, e2⟩ := bindM_some e
  split at e2
  · rename_i i j k
    split at e2
    · rename_i hn
      cases e2
      obtain ⟨n1, n2, n3, n4, rfl⟩ := hn
      refine ha.am R e1 _ fun μ1 Hd1 H1 vs g1 R1 r1 => ?_
      cases r1 with
      | cons p1 t =>
        cases t with
        | cons p2 t2 =>
          cases t2 with
          | cons p3 t3 =>
            cases t3
            cases (show _ = V.int i from p1)
            cases (show _ = V.int j from p2)
            cases (show _ = V.int (-1) from p3)
            exact ⟨i, j, -1, _, rfl, RgC.neg n1 n2 n3 n4, q μ1 Hd1 H1 _ g1 R1 (serves_rd i (i - j).toNat)⟩
    · cases e2
  · cases e2⟩
/-! ### xs[::-1] -/
theorem RpA.rev {K : PySem.W.Frag} {H : Hp} : ∀ {ds : List Dt} {vs : List V}, RpA K H ds vs → RpA K H ds.reverse vs.reverse
  | [], vs, h => by
    rw [show vs = [] from h]
    exact (rfl : ([] : List V) = [])
  | d :: ds, vs, h => by
    obtain ⟨y, r, rfl, h2, h3⟩ := h
    rw [List.reverse_cons, List.reverse_cons]
    exact (RpA.rev h3).app (.one h2)
def revM (m : M Vl) : M Vl := bindM m fun x => fun E => match see E.ce x with
  | some (.lst ds) => newL ds.reverse E
  | some (.sq ds) => newL ds.reverse E
  | _ => none
theorem xrev {kk : Nat} {p1 p2 p3 : Pos} (h : Ex_ X e te m) : Ex_ X (.Subscript e (.Slice none none (some (.UnaryOp .USub (.Constant (.int 1) kk p1) p2)) p3) pos) (tRevL X.K te) (revM m) := ⟨pe_revL h.pe, fun {μ Hd H σ E r E'} R e Q q => by
  obtain ⟨x, E1, e1, e2⟩ := bindM_some e
  split at e2
  · rename_i ds e3
    refine h.em R e1 _ fun μ1 Hd1 H1 v g1 R1 r1 => ?_
    obtain ⟨a, vs, rfl, h2, h3⟩ := see_lst R1.wo r1 e3
    refine ⟨a, vs, rfl, sq_of h2, fun p hp => ?_⟩
    obtain ⟨g2, R2, r2⟩ := newL_ok R1 h3.rev e2 hp
    exact q _ _ _ _ (g1.trans g2) R2 r2
  · rename_i ds e3
    refine h.em R e1 _ fun μ1 Hd1 H1 v g1 R1 r1 => ?_
    obtain ⟨a, vs, rfl, h2, h3⟩ := see_sq R1.wo r1 e3
    refine ⟨a, vs, rfl, h2, fun p hp => ?_⟩
    obtain ⟨g2, R2, r2⟩ := newL_ok R1 h3.rev e2 hp
    exact q _ _ _ _ (g1.trans g2) R2 r2
  · cases e2⟩
end
/-! ### texts compared -/
section
variable {K : PySem.W.Frag}
def leSF : Dt → Dt → Option Dt
  | .str i, .str j => some (.bl (!decide (j.cps.toList < i.cps.toList)))
  | _, _ => none
def rLeS : R2 := fun x y H Q => ∃ i j, x = .str i ∧ y = .str j ∧ Q (.bl (!decide (j.cps.toList < i.cps.toList))) H
theorem op_leS {X : Cx} : OpR X (compareOp .LtE) rLeS := op_le_str
theorem om_leS : OM K rLeS (op2 leSF) := om_op2 fun H a b d vx vy ha hb e Q q => by
  unfold leSF at e
  split at e
  · rename_i i j
    cases e
    exact ⟨i, j, ha, hb, q _ fun _ => rfl⟩
  · cases e
theorem leS_bl : ∀ x y E z E', op2 leSF x y E = some (z, E') → ∃ k, z = .d (.bl k) := op2_bl fun a b d e => by
  unfold leSF at e
  split at e
  · cases e
    exact ⟨_, rfl⟩
  · cases e
end
end Hk
namespace Hk
open PySem PySem.Spec PyProof.Rows L2 Evl
section
variable {X : Cx} {a b c : Expr} {ta tb tc : TE} {ma mb mc : M Vl} {pos : Pos}
theorem xchain {op op' : CmpOp} {r r' : R2} {f g : Vl → Vl → M Vl} (ho : OpR X (compareOp op) r) (ho' : OpR X (compareOp op') r') (hf : OM X.K r f) (hg : OM X.K r' g) (hgb : ∀ x y E z E', g x y E = some (z, E') → ∃ k, z = .d (.bl k)) (ha : Ex_ X a ta ma) (hb : Ex_ X b tb mb) (hc : Ex_ X c tc mc)
    (hm : lastMarks [op, op'] [b, c] = false := by with_unfolding_all rfl) : Ex_ X (.Compare a [op, op'] [b, c] pos) (tChain r r' ta tb tc) (chainV f g ma mb mc) := ⟨pe_chain ho ho' ha.pe hb.pe hc.pe hm, em_chain hf hg hgb ha.em hb.em hc.em⟩
end
end Hk
theorem L2.Room.monoR {j b n : Nat} {A : PySem.Around} (r : L2.Room (b + n) A) (h : j ≤ b) : L2.Room j A := r.mono (Nat.le_trans h (Nat.le_add_right b n))
/-! Hk11: evaluation: objects, methods of lists, tables, targets, texts. -/
namespace Hk
open PySem PySem.Spec PyProof.Rows L2 Evl
section
variable {E E1 E2 E3 : En} {x y z r : Vl} {d d1 d2 : Dt} {rs : List Vl} {k : Bool}
theorem zv_app {mo : M Vl} {ma : M (List Vl)} {c : Nat} {acc : List Dt} {sl sl2 : List (Option Vl)} {ce ce2 ce3 : List Ce} (ho : mo E = some (.c c, ⟨sl, ce⟩)) (hs : see ce (.c c) = some (.lst acc)) (ha : ma ⟨sl, ce⟩ = some ([r], ⟨sl2, ce2⟩)) (hf : fzM r ⟨sl2, ce2⟩ = some (d, ⟨sl, ce3⟩)) {acc2 : List Dt} (h3 : ce3[c]? = some (.lst acc2)) (hl : acc2.length < 100000) :
    bmM "list" mo ma appF E = some (.d .non, ⟨sl, ce3.set c (.lst (acc2 ++ [d]))⟩) := by
  refine zv_bind ho ?_
  show (match see ce (.c c) with
    | some d => if tyB "list" d = true then (bindM ma fun xs => appF (.c c) xs) ⟨sl, ce⟩ else none
    | none => none) = _
  rw [hs]
  refine zv_bind (m := ma) ha (zv_bind (m := fzM r) hf ?_)
  show (match ce3[c]? with
    | some (.lst xs) => match (if xs.length < 100000 then some (Dt.non, xs ++ [d]) else none) with
      | some (d, ys) => some (Vl.d d, (⟨sl, ce3.set c (.lst ys)⟩ : En))
      | none => none
    | _ => none) = _
  rw [h3]
  simp only [if_pos hl]
theorem zv_pop {mo : M Vl} {c : Nat} {acc : List Dt} {sl : List (Option Vl)} {ce : List Ce} (ho : mo E = some (.c c, ⟨sl, ce⟩)) (h3 : ce[c]? = some (.lst (acc ++ [d]))) :
    bmM "list" mo (retM []) popF E = some (.d d, ⟨sl, ce.set c (.lst acc)⟩) := by
  refine zv_bind ho ?_
  have hs : see ce (.c c) = some (.lst (acc ++ [d])) := zv_seeC h3
  show (match see ce (.c c) with
    | some d => if tyB "list" d = true then (bindM (retM []) fun xs => popF (.c c) xs) ⟨sl, ce⟩ else none
    | none => none) = _
  rw [hs]
  show (bindM (retM []) fun xs => popF (.c c) xs) ⟨sl, ce⟩ = _
  refine zv_bind zv_ret ?_
  show (match ce[c]? with
    | some (.lst acc) => match (match acc[acc.length - 1]? with
      | some d => some (d, acc.dropLast)
      | none => none) with
      | some (d, ys) => some (Vl.d d, (⟨sl, ce.set c (.lst ys)⟩ : En))
      | none => none
    | _ => none) = _
  rw [h3]
  simp
theorem zv_fld {C f : Str} {m : M Vl} {ns : List Str} {ds : List Dt} (h : m E = some (x, E1)) (hs : see E1.ce x = some (.obj C ns ds)) (hl : look f ns ds = some d) : fldM C f m E = some (.d d, E1) := zv_bind h (zv_see hs (by
  show (if C = C then look f ns ds else none) = some d
  rw [if_pos rfl, hl]))
theorem zk_setF {C f : Str} {mv mo : M Vl} {c : Nat} {ns : List Str} {ds : List Dt} {sl : List (Option Vl)} {ce : List Ce} (h : mv E = some (x, E1)) (hf : fzM x E1 = some (d, E2)) (ho : mo E2 = some (.c c, ⟨sl, ce⟩)) (hc : ce[c]? = some (.ins C ns ds)) (hl : ns.length < 1000) :
    setFS C f mv mo E = some (.nx ⟨sl, ce.set c (.ins C (putN f ns) (putD f d ns ds))⟩) := by
  unfold setFS
  rw [zv_bind h hf]
  simp only [ho, hc]
  rw [if_pos ⟨trivial, hl⟩]
theorem zv_make {C : Str} {G : Fn} {m : M (List Vl)} {sl : List (Option Vl)} {ce ce' : List Ce} (h : m E = some (rs, ⟨sl, ce⟩)) (g : G (.c ce.length :: rs) (ce ++ [.ins C [] []]) = some (.d .non, ce')) : makeM C G m E = some (.c ce.length, ⟨sl, ce'⟩) := zv_bind h (by
  simp only [g])
theorem zv_meth {C m : Str} {G : Fn} {mo : M Vl} {ms : M (List Vl)} {ns : List Str} {ds : List Dt} {sl : List (Option Vl)} {ce ce' : List Ce} (ho : mo E = some (x, E1)) (hs : see E1.ce x = some (.obj C ns ds)) (hl : look m ns ds = none) (ha : ms E1 = some (rs, ⟨sl, ce⟩)) (g : G (x :: rs) ce = some (z, ce')) :
    methM C m G mo ms E = some (z, ⟨sl, ce'⟩) := zv_bind ho (by
  simp only [hs]
  rw [if_pos ⟨trivial, by rw [hl]; rfl⟩]
  exact zv_bind ha (by simp only [g]))
theorem zv_own1 {C : Str} {G : Fn} {ns : List Str} {ds : List Dt} {sl : List (Option Vl)} {ce ce' : List Ce} (hs : see ce x = some (.obj C ns ds)) (g : G [x] ce = some (z, ce')) : ownF1 C G x ⟨sl, ce⟩ = some (z, ⟨sl, ce'⟩) := by
  unfold ownF1
  simp only [hs]
  rw [if_pos trivial, g]
theorem zv_own2 {C : Str} {G : Fn} {ns ns2 : List Str} {ds ds2 : List Dt} {sl : List (Option Vl)} {ce ce' : List Ce} (hs : see ce x = some (.obj C ns ds)) (hs2 : see ce y = some (.obj C ns2 ds2)) (g : G [x, y] ce = some (z, ce')) : ownF2 C G x y ⟨sl, ce⟩ = some (z, ⟨sl, ce'⟩) := by
  unfold ownF2
  simp only [hs, hs2]
  rw [if_pos ⟨trivial, trivial⟩, g]
theorem zv_lenO {C : Str} {G : Fn} {n : Int} (h : ownF1 C G x E = some (.d (.int n), E1)) (hn : 0 ≤ n ∧ n < 2 ^ 63) : lenOF C G [x] E = some (.d (.int n), E1) := zv_bind h (by
  show (if 0 ≤ n ∧ n < 2 ^ 63 then (retM (Vl.d (.int n)) : M Vl) else failM) E1 = _
  rw [if_pos hn]
  rfl)
theorem zw_isO {C : Str} {ns : List Str} {ds : List Dt} : isiOF C (.obj C ns ds) = some (.bl true) := by
  show (if C = C then some (Dt.bl true) else none) = _
  rw [if_pos rfl]
theorem zv_ixD {tb : List (Str × Dt)} {m : M Vl} {s : Str} (h : m E = some (.d (.str s), E1)) (hl : look2 s tb = some d) : ixDM tb m E = some (.d d, E1) := zv_bind h (by
  show (look2 s tb).map _ = _
  rw [hl]
  rfl)
theorem zv_inD {tb : List (Str × Dt)} {neg : Bool} {m : M Vl} {s : Str} (h : m E = some (.d (.str s), E1)) (hl : look2 s tb = some d) : inDM neg tb m E = some (.d (.bl (!neg)), E1) := zv_bind h (by
  show (look2 s tb).map _ = _
  rw [hl]
  rfl)
theorem zk_asg {m : M Vl} {g : Vl → En → Option En} (h : m E = some (r, E1)) (hg : g r E1 = some E2) : asgS m g E = some (.nx E2) := by
  unfold asgS
  rw [h]
  simp only [hg]
theorem zg_tup3 {i j k : Nat} {a b c : Dt} {sl : List (Option Vl)} {ce : List Ce} : tupG [nameG i, nameG j, nameG k] (.d (.tup [a, b, c])) ⟨sl, ce⟩ = some ⟨((sl.set i (some (.d a))).set j (some (.d b))).set k (some (.d c)), ce⟩ := rfl
theorem zg_name {i : Nat} {r : Vl} {sl : List (Option Vl)} {ce : List Ce} : nameG i r ⟨sl, ce⟩ = some ⟨sl.set i (some r), ce⟩ := rfl
theorem fl_nil {g : Vl → En → Option En} {m : En → Option Rs} {E : En} : forL g m [] E = some (.nx E) := rfl
theorem fl_cons {g : Vl → En → Option En} {m : En → Option Rs} {d : Dt} {ds : List Dt} {E E1 E2 : En} {R : Rs} (h1 : g (.d d) E = some E1) (h2 : m E1 = some (.nx E2)) (h3 : forL g m ds E2 = some R) : forL g m (d :: ds) E = some R := by
  unfold forL
  rw [h1]
  show (match m E1 with
    | some (.nx E2) => forL g m ds E2
    | some (.ct E2) => forL g m ds E2
    | some (.bk E2) => some (.nx E2)
    | some (.rt r E2) => some (.rt r E2)
    | none => none) = _
  rw [h2]
  exact h3
theorem zv_str {m : M Vl} {s : Str} (h : m E = some (.d (.str s), E1)) : strM m E = some (chrs s, E1) := zv_bind h zv_ret
theorem zv_rng3 {m : M (List Vl)} {i : Int} (h : m E = some ([.d (.int i), .d (.int 0), .d (.int (-1))], E1)) (hi : 0 ≤ i ∧ i < 2 ^ 62) : rng3M m E = some (rngD i i.toNat, E1) := zv_bind h (by
  show (if _ then _ else _) = _
  rw [if_pos ⟨by omega, hi.2, by omega, by omega, rfl⟩, Int.sub_zero])
theorem zv_rev {m : M Vl} {ds : List Dt} {sl : List (Option Vl)} {ce : List Ce} (h : m E = some (x, ⟨sl, ce⟩)) (hs : see ce x = some (.lst ds)) : revM m E = some (.c ce.length, ⟨sl, ce ++ [.lst ds.reverse]⟩) := zv_bind h (by
  simp only [hs]
  rfl)
theorem zv_chain {f g : Vl → Vl → M Vl} {ma mb mc : M Vl} {b1 : Bool} (ha : ma E = some (x, E1)) (hb : mb E1 = some (y, E2)) (hf : f x y E2 = some (.d (.bl b1), E3)) {E4 : En} (hr : pickM b1 (bindM mc (g y)) (blM false) E3 = some (z, E4)) : chainV f g ma mb mc E = some (z, E4) := zv_bind ha (zv_bind hb (zv_bind (zv_bind hf zv_bool) hr))
theorem get_L {ce L : List Ce} {i : Nat} {c : Ce} (h : L[i]? = some c) : (ce ++ L)[ce.length + i]? = some c := by
  rw [List.getElem?_append_right (by omega), Nat.add_sub_cancel_left]
  exact h
theorem set_L {ce L : List Ce} {i : Nat} {c : Ce} : (ce ++ L).set (ce.length + i) c = ce ++ L.set i c := by
  rw [List.set_append_right _ _ (by omega), Nat.add_sub_cancel_left]
theorem zv_appL {mo : M Vl} {ma : M (List Vl)} {i : Nat} {acc : List Dt} {sl : List (Option Vl)} {ce L L' : List Ce} (ho : mo E = some (.c (ce.length + i), ⟨sl, ce ++ L⟩)) (ha : ma ⟨sl, ce ++ L⟩ = some ([.d d], ⟨sl, ce ++ L⟩)) (h : L[i]? = some (.lst acc)) (hl : acc.length < 100000) (hL : L.set i (.lst (acc ++ [d])) = L') :
    bmM "list" mo ma appF E = some (.d .non, ⟨sl, ce ++ L'⟩) := by
  rw [zv_app ho (zv_seeC (get_L h)) ha zv_fzD (get_L h) hl, set_L, hL]
theorem zv_popL {mo : M Vl} {i : Nat} {acc : List Dt} {sl : List (Option Vl)} {ce L L' : List Ce} (ho : mo E = some (.c (ce.length + i), ⟨sl, ce ++ L⟩)) (h : L[i]? = some (.lst (acc ++ [d]))) (hL : L.set i (.lst acc) = L') :
    bmM "list" mo (retM []) popF E = some (.d d, ⟨sl, ce ++ L'⟩) := by
  rw [zv_pop ho (get_L h), set_L, hL]
theorem zq_str {s t : Str} (hs : PyData.strOk s = true) (ht : PyData.strOk t = true) : eqd (.str s) (.str t) = some (decide (s = t)) := by
  show (if SeqAt.shaped (.str s) = true ∧ SeqAt.shaped (.str t) = true then some (PyData.eqv (.str s) (.str t)) else none) = _
  have h : ∀ s, PyData.strOk s = true → SeqAt.shaped (.str s) = true := fun s h => by simp [SeqAt.shaped, PyData.canLay0, PyData.depth, h]
  rw [if_pos ⟨h s hs, h t ht⟩]
  simp only [PyData.eqv]
  by_cases e : s = t
  · subst e
    simp
  · rw [decide_eq_false e]
    simpa using e
end
/-! ### written things: made from the text's facts -/
theorem kt_strs {K : PySem.W.Frag} {a : Addr} {dd : Option Addr} {n : Nat} {sl : Array (Option Value)} (ps : List (Str × Tok)) (l : K.lookup a = some ⟨.type "tuple", dd, .seq (ps.map fun p => Value.str p.1 p.2).toArray n, sl⟩) (hz : ps.length ≤ sizeLine := by decide) : ∀ H, Rp K H (.tup (ps.map fun p => .str p.1)) (.ref a) := fun H => by
  have hv : ∀ ps : List (Str × Tok), Vals (ps.map fun p => V.str p.1) (ps.map fun p => Value.str p.1 p.2) := fun ps => by
    induction ps with
    | nil => exact .nil
    | cons p ps ih => exact .cons ⟨_, rfl⟩ ih
  have hr : ∀ ps : List (Str × Tok), RpA K H (ps.map fun p => Dt.str p.1) (ps.map fun p => V.str p.1) := fun ps => by
    induction ps with
    | nil => exact (rfl : ([] : List V) = [])
    | cons p ps ih => exact ⟨_, _, rfl, rfl, ih⟩
  exact ⟨a, ps.map fun p => V.str p.1, rfl, .inr ⟨_, _, _, l, rfl, rfl, by simpa using hz, by simpa using hv ps⟩, hr ps⟩
theorem wdic_mk {K : PySem.W.Frag} {w : World} {d : Addr} {tb : List (Str × Dt)} (h : ∃ es n, KDict K w d es n) (g : ∀ p ∈ tb, ∃ u y, PySem.W.nsIn K d p.1 = some (some u) ∧ RelV y u ∧ ∀ H, Rp K H p.2 y) : WDic K w d tb := by
  refine ⟨h, fun z v e => ?_⟩
  have hm : (z, v) ∈ tb := by
    clear g
    induction tb with
    | nil => cases e
    | cons p r ih =>
      obtain ⟨k, x⟩ := p
      have e : (if z = k then some x else look2 z r) = some v := e
      by_cases hz : z = k
      · rw [if_pos hz] at e
        cases e
        rw [hz]
        exact List.mem_cons_self
      · rw [if_neg hz] at e
        exact List.mem_cons_of_mem _ (ih e)
  exact g _ hm
end Hk
/-! Hk12: f-strings, texts searched and parted, the end of a list stored, classes as values. -/
namespace Hk
open PySem PySem.Spec PyProof.Rows L2 Evl
section
variable {X : Cx} {a b c e o value : Expr} {ta tb te to tv : TE} {ma mb m mo mv : M Vl} {es : List Expr} {tes : TA} {mes : M (List Vl)} {pos pos' p p2 p3 apos cpos : Pos} {C f x : Str} {n k : Nat} {fa : Addr} {fd : FuncData} {ps : List Str} {G : Fn} {CX : CXT} {E : XK}
/-! ### f-strings -/
def jsM : List (M Vl) → Str → M Vl
  | [], acc => retM (.d (.str acc))
  | m :: ms, acc => bindM m fun r => match r with
    | .d (.str y) => if (acc ++ y).length ≤ sizeLine then jsM ms (acc ++ y) else failM
    | _ => failM
inductive Jx (X : Cx) : List Expr → List TE → List (M Vl) → Prop
  | nil : Jx X [] [] []
  | cons {e : Expr} {t : TE} {m : M Vl} {es : List Expr} {ts : List TE} {ms : List (M Vl)} (h : Ex_ X e t m) (r : Jx X es ts ms) : Jx X (e :: es) (t :: ts) (m :: ms)
theorem Jx.pj {es : List Expr} {ts : List TE} {ms : List (M Vl)} (h : Jx X es ts ms) : PJ X es ts := by
  induction h with
  | nil => exact .nil
  | cons h r ih => exact .cons h.pe ih
theorem Jx.em {es : List Expr} {ts : List TE} {ms : List (M Vl)} (h : Jx X es ts ms) : ∀ (acc : Str) {μ : List Addr} {Hd H : Hp} {σ : L2.St} {E E' : En} {r : Vl}, Rl X.K μ Hd H σ E → jsM ms acc E = some (r, E') → ∀ Q : VK,
    (∀ μ' Hd' H' v, Gr μ Hd μ' Hd' → Rl X.K μ' Hd' H' σ E' → Rv X.K μ' Hd' r v → Q v H') → tJs ts acc σ H fun out H1 => Q (.str out) H1 := by
  induction h with
  | nil =>
    intro acc μ Hd H σ E E' r R e Q q
    cases e
    exact q μ Hd H _ (Gr.refl μ Hd) R rfl
  | cons h r ih =>
    intro acc μ Hd H σ E E' z R e Q q
    obtain ⟨v, E1, e1, e2⟩ := bindM_some e
    refine h.em R e1 _ fun μ1 Hd1 H1 vx g1 R1 r1 => ?_
    split at e2
    · rename_i y
      split at e2
      · rename_i hz
        exact ⟨y, r1, hz, ih _ R1 e2 Q fun μ2 Hd2 H2 v g2 R2 r2 => q μ2 Hd2 H2 v (g1.trans g2) R2 r2⟩
      · cases e2
    · cases e2
theorem xjs {v1 v2 : Expr} {rest : List Expr} {ts : List TE} {ms : List (M Vl)} (h : Jx X (v1 :: v2 :: rest) ts ms) : Ex_ X (.JoinedStr (v1 :: v2 :: rest) pos) (fun σ H Q => tJs ts Str.empty σ H fun out H1 => Q (.str out) H1) (jsM ms Str.empty) :=
  ⟨pe_joined h.pj, fun R e Q q => h.em _ R e Q q⟩
/-- a text in an f-string -/
def fmtM (m : M Vl) : M Vl := bindM m fun r => match r with
  | .d (.str y) => if y.length ≤ sizeLine then retM (.d (.str y)) else failM
  | _ => failM
theorem xfmt (h : Ex_ X e te m) : Ex_ X (.FormattedValue e (-1) none pos) (tFmt te) (fmtM m) := ⟨pe_fmt h.pe, fun {μ Hd H σ E r E'} R q Q k => by
  obtain ⟨x, E1, e1, e2⟩ := bindM_some q
  refine h.em R e1 _ fun μ1 Hd1 H1 vx g1 R1 r1 => ?_
  split at e2
  · rename_i y
    split at e2
    · rename_i hz
      cases e2
      exact .inl ⟨y, r1, hz, k μ1 Hd1 H1 _ g1 R1 rfl⟩
    · cases e2
  · cases e2⟩
/-! ### one sign in a text -/
def sgnF : Dt → Dt → Option Dt
  | .str i, .str j => match i.cps.toList with
    | [c] => some (.bl (decide (c ∈ j.cps.toList)))
    | _ => none
  | _, _ => none
abbrev rSgn : R2 := fun x y H Q => ∃ (c : Nat) (z : Str), x = .str ⟨#[c]⟩ ∧ y = .str z ∧ Q (.bl (decide (c ∈ z.cps.toList))) H
theorem om_sgn {K : PySem.W.Frag} : OM K rSgn (op2 sgnF) := om_op2 fun H a b d vx vy ha hb e Q q => by
  unfold sgnF at e
  split at e
  · rename_i i j
    split at e
    · rename_i c hc
      cases e
      have hi : i = ⟨#[c]⟩ := by
        cases i with
        | mk s =>
          have hs : s.toList = [c] := hc
          have : s = #[c] := by
            apply Array.toList_inj.mp
            rw [hs]
          rw [this]
      subst hi
      exact ⟨c, j, ha, hb, q _ fun _ => rfl⟩
    · cases e
  · cases e
/-! ### text.split(sep) -/
def splF : Vl → List Vl → M Vl := fun x xs => match x, xs with
  | .d (.str a), [.d (.str b)] => if (b.length == 0) = false ∧ a.length + 2 ≤ sizeLine then newL ((Txt.split a b).map Dt.str) else failM
  | _, _ => failM
abbrev rSpl : V → List V → Hp → VK → Prop := fun x xs H Q => ∃ a b, x = .str a ∧ xs = [.str b] ∧ (b.length == 0) = false ∧ a.length + 2 ≤ sizeLine ∧ rNewStrs (Txt.split a b) H Q
theorem rp_strs {K : PySem.W.Frag} {H : Hp} : ∀ l : List Str, RpA K H (l.map Dt.str) (l.map V.str)
  | [] => (rfl : ([] : List V) = [])
  | s :: l => ⟨.str s, l.map V.str, rfl, rfl, rp_strs l⟩
theorem mm_split {K : PySem.W.Frag} : MM K "str" rSpl splF := fun {μ Hd H σ E x vx xs vs z E'} R hx hxs e Q q => by
  unfold splF at e
  split at e
  · rename_i a b
    split at e
    · rename_i hz
      obtain ⟨v, rfl, hv⟩ := hxs.one
      refine ⟨a, b, hx, by rw [show v = .str b from hv], hz.1, hz.2, fun p hp => ?_⟩
      obtain ⟨g2, R2, r2⟩ := newL_ok R (rp_strs (Txt.split a b)) e hp
      exact q _ _ _ _ g2 R2 r2
    · cases e
  · cases e
theorem xspl {o : Expr} {to : TE} {mo : M Vl} (ho : Ex_ X o to mo) (ha : Ax X (e :: es) tes mes)
    (hbase : attributeBase o "split" X.env (eval o X.env) = eval o X.env := by rfl)
    (hfew : ((backTo cpos (starEach (e :: es) X.env)).all (fun x => !x.1) && (backToKw cpos (keywordEach [] X.env)).all (fun x => x.1.isSome)
      && decide ((e :: es).length + ([] : List Keyword).length + (if ([] : List Keyword).isEmpty then 0 else 1) < 30)) = true := by rfl)
    (hline : (apos.endLine == cpos.line) = true := by rfl) (hs : starEach (e :: es) X.env = (false, eval e X.env) :: starEach es X.env := by rfl) (hplain : (backTo cpos (starEach es X.env)).any (·.1) = false := by rfl) :
    Ex_ X (.Call (.Attribute o "split" apos) (e :: es) [] cpos) (tBM X.K "str" rSpl to tes) (bmM "str" mo mes splF) := ⟨pe_bm PySem.F.plainAttrs_str PySem.F.slot_str_split PySem.F.type_str_split mt_split ho.pe ha.pa hbase hfew hline hs hplain, em_bm ho.em ha.am mm_split⟩
end
end Hk
/-! Hk13: the end of a list stored. -/
namespace Hk
open PySem PySem.Spec PyProof.Rows L2 Evl
section
variable {P0 : Program} {w0 : World} {A0 : Around} {E0 : Value → Shared → Prop} {s0 : Shared}
set_option maxRecDepth 100000 in
theorem put_part {l b sl : Addr} {us ws : Array Value} {n n2 : Nat} {v1 v2 : Value} {lo hi : Option Int} {a c : Nat} {Q : Unit → Shared → Prop}
    (hl : s0.heap.get? l = some { cls := .type "list", data := .seq us n }) (hb : s0.heap.get? b = some { cls := .type "list", data := .seq ws n2 }) (dif : l ≠ b)
    (hsl : s0.heap.IsSliceOf sl v1 v2 .none) (p1 : IsPart v1 lo) (p2 : IsPart v2 hi) (hbd : sliceBounds lo hi none us.size = ((a : Int), (c : Int), 1)) (hac : a ≤ c)
    (hz : us.size + ws.size ≤ sizeLine) (hq : Q () { s0 with heap := s0.heap.update l (Obj.mapSeq fun q => q.extract 0 a ++ ws ++ q.extract c q.size) }) : wpAny (model P0 w0) A0 (setItem (.ref l) (.ref sl) (.ref b)) Q E0 s0 := by
  have g1 : s0.heap.IsList l us := PySem.IsL.isList hl
  have g2 : s0.heap.IsList b ws := PySem.IsL.isList hb
  obtain ⟨ob, hob, hcl, hda⟩ := id hsl
  have ty : s0.TypeIs (.ref sl) "slice" := ⟨ob, hob, hcl⟩
  have st0 : ¬ ((rawPart none == rawInt 0) = true) := Bool.false_ne_true
  have off : Builtin.List.listSameRef (.ref l) (.ref b) = false := by
    unfold Builtin.List.listSameRef
    exact beq_eq_false_iff_ne.mpr dif
  have mx : (max (a : Int) (c : Int)).toNat = c := by omega
  have hsz : ((fun q : Array Value => q.extract 0 a ++ ws ++ q.extract c q.size) us).size ≤ sizeLine + 1 := by
    simp only [Array.size_append, Array.size_extract]
    omega
  unfold setItem
  try with_reducible refine wpAny_holding ?_
  first | refine wpAny_bind (wpAny_pure ?_) | skip
  refine wpAny_bind (wpAny_sequenceKey g1.typeIs (by decide) ?_)
  refine wpAny_bind (wpAny_callSpecial?_slot (name := Str.ofString "__setitem__") g1.typeIs slot_list_setitem (wpAny_call_entry slot_list_setitem g1.typeIs entry_list_setitem ?_ (args_list_setitem _ _ _)))
  show wpAny (model P0 w0) _ (Builtin.List.listSubscript? (.ref sl) >>= _) _ _ s0
  refine wpAny_bind ?_
  unfold Builtin.List.listSubscript?
  refine wpAny_bind (wpAny_specialOf ty slice_no_index ?_)
  simp only [Option.isNone_none, if_true]
  refine wpAny_pure ?_
  show wpAny (model P0 w0) _ (typeOf (.ref sl) >>= _) _ _ s0
  refine wpAny_bind (wpAny_typeOf ty ?_)
  first
    | rw [if_neg (by decide)]
    | refine PySem.W.KFB.if_not (by decide) ?_
  rw [listSliceParts_eq]
  refine wpAny_bind (wpAny_bind (wpAny_field hob hda (x := .none) rfl (wpAny_bind (wpAny_listPart .none ?_))))
  rw [if_neg st0]
  refine wpAny_bind (wpAny_field hob hda (x := v1) rfl (wpAny_bind (wpAny_listPart p1 ?_)))
  refine wpAny_bind (wpAny_field hob hda (x := v2) rfl (wpAny_bind (wpAny_listPart p2 (wpAny_pure ?_))))
  first
    | simp only [off, Bool.false_eq_true, if_false]
    | refine PySem.W.KFB.if_not off ?_
    | (dsimp only; rw [if_neg (by rw [off]; exact Bool.false_ne_true)])
  refine wpAny_bind (m := Builtin.List.listAllItems (.ref b) "must assign iterable to extended slice") ?_
  unfold Builtin.List.listAllItems
  refine wpAny_bind (wpAny_typeOf g2.typeIs ?_)
  first
    | refine PySem.W.KFB.if_so (by decide) ?_
    | rw [if_pos (by decide)]
    | simp only [beq_self_eq_true, Bool.true_or, if_true]
  unfold Builtin.List.listItems
  refine wpAny_bind (wpAny_seqItems hb rfl (wpAny_pure ?_))
  refine wpAny_bind (wpAny_bind (wpAny_seqItems hl rfl (wpAny_pure ?_)))
  refine wpAny_bind (wpAny_of_eq ((sliceIndices_raw lo hi none us.size (by simp)).trans (congrArg (pure : Int × Int × Int → Sem (Int × Int × Int)) hbd)) ?_)
  show wpAny (model P0 w0) _ (if ((1 : Int) == 1) = true then _ else _) _ _ s0
  rw [if_pos (by decide)]
  refine wpAny_bind (wpAny_rule ?_)
  first
    | simp only [notLongL hz, Bool.false_eq_true, if_false]
    | refine PySem.W.KFB.if_not (notLongL hz) ?_
  first | refine wpAny_bind (wpAny_pure ?_) | skip
  show wpAny (model P0 w0) _ (updateSeq l (fun q => q.extract 0 ((a : Int)).toNat ++ ws ++ q.extract (max (a : Int) (c : Int)).toNat q.size) >>= _) _ _ s0
  rw [mx, Int.toNat_natCast]
  refine wpAny_bind (wpAny_updateSeq (hz := Nat.le_trans (Nat.le_add_right _ _) hz) (_hz' := hsz) hl rfl ?_)
  refine wpAny_bind (wpAny_letGo ?_)
  first
    | exact wpAny_bind (wpAny_pure (wpAny_pure ⟨.none, rfl, wpAny_pure hq⟩))
    | exact wpAny_pure ⟨.none, rfl, wpAny_pure hq⟩
end
theorem end_bounds {m n : Nat} (h1 : 1 ≤ m) (h2 : m ≤ n) : sliceBounds (some (-(m : Int))) none none n = (((n - m : Nat) : Int), (n : Int), 1) := by
  simp only [sliceBounds, Option.getD_none]
  have c1 : (-(m : Int)) < 0 := by omega
  simp only [c1, if_true, show (1 : Int) > 0 by decide]
  congr 1
  omega
section
variable {X : Cx}
theorem put_end {pins : List (Addr × Obj)} {s : Shared} {σ : L2.St} {H : Hp} {l b sl : Addr} {xs ys : List V} {m : Nat} {v1 v2 : Value} {Q : Unit → Shared → Prop} (I : Inv X pins σ H s) (hH : H l = some (.lst xs)) (hB : H b = some (.lst ys)) (dif : l ≠ b)
    (hsl : s.heap.IsSliceOf sl v1 v2 .none) (p1 : IsPart v1 (some (-(m : Int)))) (p2 : IsPart v2 none) (h1 : 1 ≤ m) (h2 : m ≤ xs.length) (hz : xs.length + ys.length ≤ sizeLine)
    (hq : ∀ s', Inv X pins σ (upd H l (.lst (xs.take (xs.length - m) ++ ys))) s' → Q () s') : wpAny (model X.prog X.w) X.A (setItem (.ref l) (.ref sl) (.ref b)) Q X.xe s := by
  obtain ⟨z, its, n, r, hl, e⟩ := I.lstM hH
  obtain ⟨z2, its2, n2, r2, hl2, e2⟩ := I.lstM hB
  refine put_part (lo := some (-(m : Int))) (hi := none) (a := its.length - m) (c := its.length) e e2 dif hsl p1 p2 ?_ (by omega) (by rw [List.size_toArray, List.size_toArray]; omega) (hq _ ?_)
  · rw [List.size_toArray]
    exact end_bounds h1 (by omega)
  · refine I.lset (its' := its.take (its.length - m) ++ its2 ++ its.drop its.length) (t' := s.toks) hH e ?_ ?_ ?_
    · exact splice_eq its its2 _ _
    · have ed : its.drop its.length = [] := List.drop_length
      rw [ed, List.append_nil, ← hl]
      exact (r.take _).append r2
    · rw [List.length_append, List.length_take]
      omega
/-! ### o[-m:] = e -/
def gEnd (to : TE) (m : Nat) : TG := fun v σ H Q => to σ H fun x H1 => ∃ (a b : Addr) (xs ys : List V), x = .ref a ∧ v = .ref b ∧ H1 a = some (.lst xs) ∧ H1 b = some (.lst ys) ∧ a ≠ b ∧ 1 ≤ m ∧ m ≤ xs.length ∧ xs.length + ys.length ≤ sizeLine ∧
  Q σ (upd H1 a (.lst (xs.take (xs.length - m) ++ ys)))
variable {o e lo : Expr} {to te : TE} {mo me : M Vl} {p2 p3 pos : Pos} {m : Nat}
theorem pg_end (ho : PE X o to) (hm : PO X (some lo) (fun σ H Q => Q (some (-(m : Int))) H))
    (ha : ∀ v, assign (.Subscript o (.Slice (some lo) none none p3) pos) X.env v = (do
      let ov ← holding [v] (eval o X.env)
      let iv ← holding [v, ov] (eval (.Slice (some lo) none none p3) X.env)
      standAt pos
      holding [v, ov, iv] (setItem ov iv v)
      release [iv, v, ov] []) := by intro _; rfl) : PG X (.Subscript o (.Slice (some lo) none none p3) pos) (gEnd to m) := by
  refine ⟨fun pins s σ H v u Q I r h => ?_⟩
  rw [ha]
  refine wpAny_bind (wpAny_holding (thn (ho.run pins s σ H _ I h) fun ov s1 ⟨x, H1, I1, r1, q1⟩ => ?_))
  obtain ⟨a, b, xs, ys, rfl, rfl, hH, hB, dif, h1, h2, hz, q⟩ := q1
  cases r1
  cases r
  refine wpAny_bind (wpAny_holding (wpAny_Slice (thn (hm.run pins s1 σ H1 (fun l H' => l = some (-(m : Int)) ∧ H' = H1) I1 ⟨rfl, rfl⟩) fun vl s2 ⟨l, H2, I2, pl, el, eh⟩ => ?_)))
  subst el eh
  refine thn (po_none.run pins s2 σ H2 (fun l H' => l = none ∧ H' = H2) I2 ⟨rfl, rfl⟩) fun vu s3 ⟨l2, H3, I3, pu, el2, eh2⟩ => ?_
  subst el2 eh2
  rw [evalPart_none]
  refine wpAny_pure ?_
  have I4 : Inv X pins σ H3 { s3 with heap := s3.heap.push { cls := .type "slice", data := .fields #[vl, vu, .none] } } := I3.kept (t' := s3.toks) fun _ _ w => Heap.get?_push_of_some _ w
  refine wpAny_bind (wpAny_standAt (wpAny_bind (wpAny_holding (put_end I4 hH hB dif (Heap.IsSliceOf.new ..) pl pu h1 h2 hz fun s5 I5 => ?_))))
  exact wpAny_release ⟨σ, _, I5, q⟩
/-- the end of a cell's list stored, a new list's items -/
def setES (mv mo : M Vl) (m : Nat) : En → Option Rs := fun E => match (bindM mv fun r => bindM mo fun q => retM (r, q)) E with
  | some ((.c j, .c k), E2) => match E2.ce[j]?, E2.ce[k]? with
    | some (.lst ds), some (.lst xs) => if j ≠ k ∧ 1 ≤ m ∧ m ≤ xs.length ∧ xs.length + ds.length ≤ 100000 then some (.nx ⟨E2.sl, E2.ce.set k (.lst (xs.take (xs.length - m) ++ ds))⟩) else none
    | _, _ => none
  | _ => none
theorem ssetE {i : Int} {kk : Nat} {p1 pz : Pos} (h : Ex_ X e te me) (ho : Ex_ X o to mo) (hi : i = (m : Int) := by rfl)
    (hs : swapsWithSole [.Subscript o (.Slice (some (.UnaryOp .USub (.Constant (.int i) kk p1) p2)) none none p3) pz] e pos.line X.env = pure false := by rfl)
    (hw : swappedStores [.Subscript o (.Slice (some (.UnaryOp .USub (.Constant (.int i) kk p1) p2)) none none p3) pz] e X.env = pure none := by rfl)
    (h1 : (assignEach [.Subscript o (.Slice (some (.UnaryOp .USub (.Constant (.int i) kk p1) p2)) none none p3) pz] X.env).map (·.2) = [assign (.Subscript o (.Slice (some (.UnaryOp .USub (.Constant (.int i) kk p1) p2)) none none p3) pz) X.env] := by rfl)
    (ha : ∀ v, assign (.Subscript o (.Slice (some (.UnaryOp .USub (.Constant (.int i) kk p1) p2)) none none p3) pz) X.env v = (do
      let ov ← holding [v] (eval o X.env)
      let iv ← holding [v, ov] (eval (.Slice (some (.UnaryOp .USub (.Constant (.int i) kk p1) p2)) none none p3) X.env)
      standAt pz
      holding [v, ov, iv] (setItem ov iv v)
      release [iv, v, ov] []) := by intro _; rfl) :
    Sx X (.Assign [.Subscript o (.Slice (some (.UnaryOp .USub (.Constant (.int i) kk p1) p2)) none none p3) pz] e pos) (tAsg te (gEnd to m)) (setES me mo m) := by
  have hm : PO X (some (.UnaryOp .USub (.Constant (.int i) kk p1) p2)) (fun σ H Q => Q (some (-(m : Int))) H) := by
    refine ⟨fun pins s σ H Q I q => ?_⟩
    subst hi
    refine (po_some (pe_un un_neg (pe_int (X := X) (i := (m : Int))))).run pins s σ H Q I ?_
    exact ⟨m, rfl, -(m : Int), rfl, q⟩
  refine ⟨ps_asg h.pe (pg_end ho.pe hm ha) hs hw h1, fun {μ Hd H σ E R} r q D d => ?_⟩
  unfold setES at q
  split at q
  · rename_i j k E2 e1
    obtain ⟨x, E1, e2, e3⟩ := bindM_some e1
    obtain ⟨y, E3, e4, e5⟩ := bindM_some e3
    cases e5
    split at q
    · rename_i ds xs d1 d2
      split at q
      · rename_i hc
        cases q
        refine h.em r e2 _ fun μ1 Hd1 H1 v g1 R1 r1 => ?_
        refine ho.em R1 e4 _ fun μ2 Hd2 H2 w g2 R2 r2 => ?_
        obtain ⟨b, hb, rfl⟩ := Rv.gr g2 r1
        obtain ⟨a, hk, rfl⟩ := r2
        obtain ⟨c1, us, c2, c3⟩ := R2.wo.lst d2 hk
        obtain ⟨c4, ws, c5, c6⟩ := R2.wo.lst d1 hb
        have dif : a ≠ b := fun z => by
          subst z
          exact hc.1 (R2.wo.inj j k a _ _ hb hk d1 d2 rfl rfl)
        refine ⟨a, b, us, ws, rfl, rfl, c2, c5, dif, hc.2.1, by rw [c3.len]; exact hc.2.2.1, by rw [c3.len, c6.len]; exact sz_of hc.2.2.2, ?_⟩
        refine d μ2 Hd2 _ _ (g1.trans g2) (R2.setC d2 hk ?_)
        rw [c3.len]
        exact (c3.take _).app c6
      · cases q
    · cases q
  · cases q
end
end Hk
/-! Hk14: dicts; classes in slots, class methods; keys that are not in a written dict. -/
namespace Hk
open PySem PySem.Spec PyProof.Rows L2 Evl
/-! ### keys -/
def kGet (k : Key) : List Key → List Dt → Option Dt
  | j :: ks, d :: ds => if j = k then some d else kGet k ks ds
  | _, _ => none
def kHas (k : Key) (ks : List Key) : Bool := ks.any fun j => decide (j = k)
def kPutN (k : Key) (ks : List Key) : List Key := if kHas k ks = true then ks else ks ++ [k]
def kRep (k : Key) (d : Dt) : List Key → List Dt → List Dt
  | j :: ks, e :: ds => (if j = k then d else e) :: kRep k d ks ds
  | _, _ => []
def kPutD (k : Key) (d : Dt) (ks : List Key) (ds : List Dt) : List Dt := if kHas k ks = true then kRep k d ks ds else ds ++ [d]
section
variable {K : PySem.W.Frag} {H Hd : Hp}
theorem kGet_ok {k : Key} : ∀ {kvs : List (Key × V)} {ds : List Dt} {d : Dt}, RpA K H ds (kvs.map (·.2)) → kGet k (kvs.map (·.1)) ds = some d → ∃ v, valV kvs k = some v ∧ Rp K H d v
  | [], ds, d, _, e => by
    cases ds <;> cases e
  | (j, x) :: kvs, [], d, h, e => by cases e
  | (j, x) :: kvs, y :: ds, d, h, e => by
    obtain ⟨x', r, e0, h2, h3⟩ := h
    cases e0
    have e : (if j = k then some y else kGet k (kvs.map (·.1)) ds) = some d := e
    by_cases hj : j = k
    · rw [if_pos hj] at e
      cases e
      exact ⟨x, by unfold valV; simp [hj], h2⟩
    · rw [if_neg hj] at e
      obtain ⟨v, h4, h5⟩ := kGet_ok h3 e
      refine ⟨v, ?_, h5⟩
      rw [← h4]
      unfold valV
      simp [hj]
theorem kGet_no {k : Key} : ∀ {kvs : List (Key × V)} {ds : List Dt}, RpA K H ds (kvs.map (·.2)) → kGet k (kvs.map (·.1)) ds = none → valV kvs k = none
  | [], ds, _, e => rfl
  | (j, x) :: kvs, [], h, e => by
    have := h.len
    simp at this
  | (j, x) :: kvs, y :: ds, h, e => by
    obtain ⟨x', r, e0, h2, h3⟩ := h
    cases e0
    have e : (if j = k then some y else kGet k (kvs.map (·.1)) ds) = none := e
    by_cases hj : j = k
    · rw [if_pos hj] at e
      cases e
    · rw [if_neg hj] at e
      rw [← kGet_no h3 e]
      unfold valV
      simp [hj]
theorem kRep_ok {k : Key} {d : Dt} {v : V} (hv : Rp K H d v) : ∀ {kvs : List (Key × V)} {ds : List Dt}, RpA K H ds (kvs.map (·.2)) → RpA K H (kRep k d (kvs.map (·.1)) ds) ((kvs.map fun kv => if kv.1 = k then (kv.1, v) else kv).map (·.2))
  | [], ds, h => by
    cases ds <;> exact (rfl : ([] : List V) = [])
  | (j, x) :: kvs, [], h => by
    have := h.len
    simp at this
  | (j, x) :: kvs, y :: ds, h => by
    obtain ⟨x', r, e0, h2, h3⟩ := h
    cases e0
    have ih := kRep_ok hv h3 (k := k)
    by_cases hj : j = k
    · refine ⟨v, _, ?_, ?_, ih⟩
      · simp [hj]
      · show Rp K H (if j = k then d else y) v
        rw [if_pos hj]
        exact hv
    · refine ⟨x, _, ?_, ?_, ih⟩
      · simp [hj]
      · show Rp K H (if j = k then d else y) x
        rw [if_neg hj]
        exact h2
theorem any_has {k : Key} : ∀ kvs : List (Key × V), (kvs.any fun kv => decide (kv.1 = k)) = kHas k (kvs.map (·.1)) := fun kvs => by
  unfold kHas
  rw [List.any_map]
  rfl
theorem kPut_ok {k : Key} {d : Dt} {v : V} (hv : Rp K H d v) {kvs : List (Key × V)} {ds : List Dt} (h : RpA K H ds (kvs.map (·.2))) : (putK kvs k v).map (·.1) = kPutN k (kvs.map (·.1)) ∧ RpA K H (kPutD k d (kvs.map (·.1)) ds) ((putK kvs k v).map (·.2)) := by
  unfold putK kPutN kPutD
  rw [any_has]
  by_cases hm : kHas k (kvs.map (·.1)) = true
  · rw [if_pos hm, if_pos hm, if_pos hm]
    refine ⟨?_, kRep_ok hv h⟩
    rw [List.map_map]
    apply List.map_congr_left
    intro p _
    show (if p.1 = k then (p.1, v) else p).1 = p.1
    by_cases hp : p.1 = k
    · rw [if_pos hp]
    · rw [if_neg hp]
  · rw [if_neg hm, if_neg hm, if_neg hm]
    refine ⟨by simp, ?_⟩
    rw [List.map_append]
    exact h.app (RpA.one hv)
end
/-! ### {k: e, ..} -/
def keyV : Vl → Option Key
  | .d (.str s) => some (.inr s)
  | .d (.int i) => some (.inl i)
  | _ => none
theorem keyV_ok {K : PySem.W.Frag} {μ : List Addr} {Hd : Hp} {r : Vl} {v : V} {k : Key} (h : Rv K μ Hd r v) (e : keyV r = some k) : v = kV k := by
  cases r with
  | c j => cases e
  | t rs => cases e
  | d d =>
    cases d <;> first | (cases e; exact h) | cases e
def prsM : List (M Vl × M Vl) → M (List (Vl × Vl))
  | [] => retM []
  | (mk, mv) :: r => bindM mk fun x => bindM mv fun y => bindM (prsM r) fun xs => retM ((x, y) :: xs)
def keysV : List (Vl × Vl) → Option (List Key)
  | [] => some []
  | (x, _) :: r => match keyV x, keysV r with
    | some k, some ks => some (k :: ks)
    | _, _ => none
/-- many stores one behind the other -/
def mrgN : List Key → List Key → List Key
  | acc, [] => acc
  | acc, k :: r => mrgN (kPutN k acc) r
def mrgD : List Key → List Dt → List Key → List Dt → List Dt
  | ks, ds, k :: r, d :: es => mrgD (kPutN k ks) (kPutD k d ks ds) r es
  | _, ds, _, _ => ds
theorem mrg_ok {K : PySem.W.Frag} {H : Hp} : ∀ {more : List (Key × V)} {es : List Dt} {kvs : List (Key × V)} {ds : List Dt}, RpA K H es (more.map (·.2)) → RpA K H ds (kvs.map (·.2)) →
    (mergeK kvs more).map (·.1) = mrgN (kvs.map (·.1)) (more.map (·.1)) ∧ RpA K H (mrgD (kvs.map (·.1)) ds (more.map (·.1)) es) ((mergeK kvs more).map (·.2))
  | [], es, kvs, ds, h, g => by
    cases es with
    | nil => exact ⟨rfl, g⟩
    | cons e es =>
      obtain ⟨x, r, e0, _, _⟩ := h
      cases e0
  | (k, x) :: more, [], kvs, ds, h, g => by cases h
  | (k, x) :: more, e :: es, kvs, ds, h, g => by
    obtain ⟨x', r, e0, h2, h3⟩ := h
    cases e0
    obtain ⟨p1, p2⟩ := kPut_ok (k := k) h2 g
    obtain ⟨q1, q2⟩ := mrg_ok (kvs := putK kvs k x) h3 p2
    rw [p1] at q1 q2
    exact ⟨q1, q2⟩
def dspM (n : Nat) (ps : List (M Vl × M Vl)) : M Vl := fun E => match prsM ps ⟨E.sl, E.ce ++ [.dic [] []]⟩ with
  | some (xs, E1) => match keysV xs, fzA (xs.map (·.2)) E1 with
    | some ks, some (ds, E2) => match E2.ce[E.ce.length]? with
      | some (.dic [] []) => some (.c E.ce.length, ⟨E2.sl, E2.ce.set E.ce.length (.dic (mrgN [] ks) (mrgD [] [] ks ds))⟩)
      | _ => none
    | _, _ => none
  | none => none
/-- the parts -/
inductive Dpx (X : Cx) : List (Option Expr) → List Expr → List (TE × TE) → List (M Vl × M Vl) → Prop
  | nil : Dpx X [] [] [] []
  | cons {k v : Expr} {tk tv : TE} {mk mv : M Vl} {ks : List (Option Expr)} {vs : List Expr} {ts : List (TE × TE)} {ms : List (M Vl × M Vl)} (hk : Ex_ X k tk mk) (hv : Ex_ X v tv mv) (r : Dpx X ks vs ts ms) : Dpx X (some k :: ks) (v :: vs) ((tk, tv) :: ts) ((mk, mv) :: ms)
theorem Dpx.pp {X : Cx} {pos : Pos} {ks : List (Option Expr)} {vs : List Expr} {ts : List (TE × TE)} {ms : List (M Vl × M Vl)} (h : Dpx X ks vs ts ms) : PPs X pos ks vs ts := by
  induction h with
  | nil => exact pps_nil
  | cons hk hv r ih => exact pps_cons hk.pe hv.pe ih
theorem Dpx.len {X : Cx} {ks : List (Option Expr)} {vs : List Expr} {ts : List (TE × TE)} {ms : List (M Vl × M Vl)} (h : Dpx X ks vs ts ms) : ∀ {E E' : En} {xs : List (Vl × Vl)}, prsM ms E = some (xs, E') → xs.length = ms.length := by
  induction h with
  | nil =>
    intro E E' xs e
    cases e
    rfl
  | cons hk hv r ih =>
    intro E E' xs e
    obtain ⟨x, E1, e1, e2⟩ := bindM_some e
    obtain ⟨y, E2, e3, e4⟩ := bindM_some e2
    obtain ⟨zs, E3, e5, e6⟩ := bindM_some e4
    cases e6
    rw [List.length_cons, List.length_cons, ih e5]
theorem Dpx.em {X : Cx} {ks : List (Option Expr)} {vs : List Expr} {ts : List (TE × TE)} {ms : List (M Vl × M Vl)} (h : Dpx X ks vs ts ms) : ∀ {μ : List Addr} {Hd H : Hp} {σ : L2.St} {E E' : En} {xs : List (Vl × Vl)}, Rl X.K μ Hd H σ E → prsM ms E = some (xs, E') → ∀ Q : List (V × V) → Hp → Prop,
    (∀ μ' Hd' H' us ws, Gr μ Hd μ' Hd' → Rl X.K μ' Hd' H' σ E' → RvA X.K μ' Hd' (xs.map (·.1)) us → RvA X.K μ' Hd' (xs.map (·.2)) ws → us.length = ws.length → Q (us.zip ws) H') → tPairs ts σ H Q := by
  induction h with
  | nil =>
    intro μ Hd H σ E E' xs R e Q q
    cases e
    exact q μ Hd H [] [] (Gr.refl μ Hd) R .nil .nil rfl
  | cons hk hv r ih =>
    intro μ Hd H σ E E' xs R e Q q
    obtain ⟨x, E1, e1, e2⟩ := bindM_some e
    obtain ⟨y, E2, e3, e4⟩ := bindM_some e2
    obtain ⟨zs, E3, e5, e6⟩ := bindM_some e4
    cases e6
    refine hk.em R e1 _ fun μ1 Hd1 H1 u g1 R1 r1 => ?_
    refine hv.em R1 e3 _ fun μ2 Hd2 H2 w g2 R2 r2 => ?_
    refine ih R2 e5 _ fun μ3 Hd3 H3 us ws g3 R3 r3 r4 hl => ?_
    refine q μ3 Hd3 H3 (u :: us) (w :: ws) (g1.trans (g2.trans g3)) R3 (.cons (Rv.gr (g2.trans g3) r1) r3) (.cons (Rv.gr g3 r2) r4) (by rw [List.length_cons, List.length_cons, hl])
theorem keys_ok {K : PySem.W.Frag} {μ : List Addr} {Hd : Hp} : ∀ {xs : List (Vl × Vl)} {us : List V} {ks : List Key}, RvA K μ Hd (xs.map (·.1)) us → keysV xs = some ks → us = ks.map kV
  | [], us, ks, h, e => by
    cases h
    cases e
    rfl
  | (x, y) :: xs, us, ks, h, e => by
    cases h with
    | cons h1 h2 =>
      unfold keysV at e
      split at e
      · rename_i k ks' e1 e2
        cases e
        rw [List.map_cons, keyV_ok h1 e1, keys_ok h2 e2]
      · cases e
theorem zip_kV : ∀ (kk : List Key) (ws : List V), (kk.map kV).zip ws = (kk.zip ws).map (fun kv => (kV kv.1, kv.2))
  | [], ws => by simp
  | k :: kk, [] => by simp
  | k :: kk, w :: ws => by
    simp only [List.map_cons, List.zip_cons_cons]
    rw [zip_kV kk ws]
theorem xdsp {X : Cx} {pos : Pos} {ks : List (Option Expr)} {vs : List Expr} {ts : List (TE × TE)} {ms : List (M Vl × M Vl)} (h : Dpx X ks vs ts ms) (hall : ks.all (·.isSome) = true := by rfl) (hl : ks.length = vs.length := by rfl) (h0 : ks ≠ [] := by intro z; cases z) (h15 : ks.length ≤ 15 := by decide) (hm : ms.length ≤ 15 := by decide) :
    Ex_ X (.Dict ks vs pos) (tDisp ts) (dspM ms.length ms) := ⟨pe_disp h.pp hall hl h0 h15, fun {μ Hd H σ E z E'} R e Q q => by
  unfold dspM at e
  split at e
  · rename_i xs E1 e1
    split at e
    · rename_i kk ds E2 e2 e3
      split at e
      · rename_i e4
        cases e
        intro p hp
        obtain ⟨g0, R0, r0⟩ := R.newX (c := .dic [] []) (o := .dK []) hp ⟨[], rfl, rfl, (rfl : ([] : List V) = [])⟩
        refine h.em R0 e1 _ fun μ1 Hd1 H1 us ws g1 R1 r1 r2 hlen => ?_
        have ek := keys_ok r1 e2
        subst ek
        obtain ⟨Hd2, g2, R2, r3⟩ := fzA_ok R1 r2 e3
        obtain ⟨a, h1, h2⟩ := Rv.gr (g1.trans g2) r0
        cases h2
        obtain ⟨k1, o, k2, k3⟩ := R2.wo.at_ _ _ _ e4 h1 rfl
        obtain ⟨kvs, rfl, k4, k5⟩ := k3
        have kn : kvs = [] := by
          cases kvs with
          | nil => rfl
          | cons q r => cases k4
        subst kn
        have el : kk.length = ws.length := by rw [← hlen, List.length_map]
        have ep : (kk.map kV).zip ws = (kk.zip ws).map (fun kv => (kV kv.1, kv.2)) := zip_kV kk ws
        have m1 : (kk.zip ws).map (·.1) = kk := List.map_fst_zip (Nat.le_of_eq el)
        have m2 : (kk.zip ws).map (·.2) = ws := List.map_snd_zip (Nat.le_of_eq el.symm)
        have hx := h.len e1
        have hw : ws.length = xs.length := by
          rw [r2.len]
          simp
        refine ⟨k2, kk.zip ws, ep, by rw [List.length_zip]; omega, ?_⟩
        obtain ⟨q1, q2⟩ := mrg_ok (K := X.K) (H := Hd2) (more := kk.zip ws) (es := ds) (kvs := []) (ds := []) (by rw [m2]; exact r3) (rfl : ([] : List V) = [])
        rw [m1] at q1 q2
        refine q _ _ _ _ (g0.trans (g1.trans g2)) (R2.setX e4 rfl h1 ⟨_, rfl, q1, q2⟩) ?_
        exact ⟨p, h1, rfl⟩
      · cases e
    · cases e
  · cases e⟩
/-! ### d[k], k in d -/
def dgM (mo mi : M Vl) : M Vl := bindM mo fun x => bindM mi fun y => fun E => match see E.ce x, keyV y with
  | some (.dic ks ds), some k => (kGet k ks ds).map fun d => (.d d, E)
  | _, _ => none
section
variable {X : Cx} {a b c e o i : Expr} {ta tb te to ti : TE} {ma mb m mo mi : M Vl} {es : List Expr} {tes : TA} {mes : M (List Vl)} {pos p p2 apos : Pos} {C x : Str} {n k : Nat} {fa : Addr} {fd : FuncData} {ps : List Str} {G : Fn} {CX : CXT} {E : XK}
theorem see_dic {K : PySem.W.Frag} {Hd H : Hp} {μ : List Addr} {ce : List Ce} {r : Vl} {v : V} {ks : List Key} {ds : List Dt} (w : Wo K μ Hd H ce) (hv : Rv K μ Hd r v) (h : see ce r = some (.dic ks ds)) : ∃ a kvs, v = .ref a ∧ H a = some (.dK kvs) ∧ kvs.map (·.1) = ks ∧ RpA K H ds (kvs.map (·.2)) := see_ok w hv h
theorem rp_down {K : PySem.W.Frag} {Hd H : Hp} {μ : List Addr} {ce : List Ce} {r : Vl} {v : V} {ks : List Key} {ds : List Dt} (w : Wo K μ Hd H ce) (hv : Rv K μ Hd r v) (h : see ce r = some (.dic ks ds)) : ∃ a kvs, v = .ref a ∧ H a = some (.dK kvs) ∧ kvs.map (·.1) = ks ∧ RpA K Hd ds (kvs.map (·.2)) := by
  cases r with
  | d d' =>
    have e : d' = .dic ks ds := Option.some.inj h
    subst e
    obtain ⟨a, kvs, h1, h2, h3, h4⟩ := hv
    exact ⟨a, kvs, h1, w.ex a _ h2, h3, h4⟩
  | c k =>
    obtain ⟨c, e1, e3⟩ := seeC_some h
    obtain ⟨a, e2, rfl⟩ := hv
    obtain ⟨h1, o, h2, h3⟩ := w.at_ k c a e1 e2 (dataC_live e3)
    cases c <;> cases e3
    obtain ⟨kvs, rfl, h4, h5⟩ := h3
    exact ⟨a, kvs, rfl, h2, h4, h5⟩
  | t rs => cases h
theorem xdg {kk : Nat} (hr : Room kk X.A) (ho : Ex_ X o to mo) (hi : Ex_ X i ti mi) (hs : NoSl i := by intro _ _; rfl) : Ex_ X (.Subscript o i pos) (tDGet to ti) (dgM mo mi) := ⟨pe_dget (by have := hr.units; omega) ho.pe hi.pe hs, fun {μ Hd H σ E r E'} R q Q k => by
  obtain ⟨x, E1, e1, e2⟩ := bindM_some q
  obtain ⟨y, E2, e3, e4⟩ := bindM_some e2
  refine ho.em R e1 _ fun μ1 Hd1 H1 v g1 R1 r1 => ?_
  refine hi.em R1 e3 _ fun μ2 Hd2 H2 w g2 R2 r2 => ?_
  split at e4
  · rename_i ks ds kq s1 s2
    cases e5 : kGet kq ks ds with
    | none =>
      rw [e5] at e4
      cases e4
    | some d =>
      rw [e5] at e4
      cases e4
      obtain ⟨a, kvs, rfl, h1, rfl, h3⟩ := rp_down R2.wo (Rv.gr g2 r1) s1
      obtain ⟨u, h4, h5⟩ := kGet_ok h3 e5
      have ey := keyV_ok r2 s2
      refine ⟨a, u, rfl, ?_, k _ _ _ _ (g1.trans g2) R2 h5⟩
      rw [ey, ← h4]
      exact DGet.k h1
  · cases e4⟩
/-! ### a class in a slot -/
def mkVM (i : Nat) (C : Str) (G : Fn) (m : M (List Vl)) : M Vl := fun E => match E.sl[i]? with
  | some (some (.d (.cls D))) => if D = C then makeM C G m E else none
  | _ => none
def tMkV (i : Nat) (C : Addr) (sp : Sp) (E : XK) (t : TA) : TE := fun σ H Q => σ[i]? = some (some (.ref C)) ∧ tMake C sp [] E t σ H Q
theorem xmkV {j : Nat} (M : Mk X.K (clA X.K C) fa) (F : FnOk X.prog X.w X.K X.mg X.base CX k fa fd ps (spM X.K (n + 1) G)) (hr : Room (k + 1) X.A) (hb : Binds X.K fd ps [])
    (ha : Ax X (e :: es) tes mes) (hn : ∀ (E : En) (rs : List Vl) (E' : En), mes E = some (rs, E') → rs.length = n) (hx : Passes CX X E) (hN : X.N[j]? = some x := by rfl) (hv : Vis X.env.scope x := by first | exact Or.inl rfl | exact Or.inr (Or.inl rfl) | exact Or.inr (Or.inr rfl))
    (hd : (x == ("__debug__" : Str)) = false := by decide) (hcd : (x == ("__classdict__" : Str)) = false := by decide)
    (he : starEach (e :: es) X.env = (false, eval e X.env) :: starEach es X.env := by rfl) (hpl : (backTo pos (starEach es X.env)).any (·.1) = false := by rfl) :
    Ex_ X (.Call (.Name x p) (e :: es) [] pos) (tMkV j (clA X.K C) (spM X.K (n + 1) G) E tes) (mkVM j C G mes) := by
  refine ⟨⟨fun pins s σ H Q I h => ?_⟩, fun {μ Hd H σ E1 r E'} R q Q kk => ?_⟩
  · obtain ⟨hs, h⟩ := h
    refine wpAny_Call_Name_kw (thn ((pe_var (pos := p) (i := j) hN hv hd hcd).run pins s σ H (fun v H1 => v = .ref (clA X.K C) ∧ H1 = H) I ⟨.ref (clA X.K C), hs, rfl, rfl⟩) fun u s1 ⟨v, H1, I1, r1, ev, eh⟩ => ?_)
    subst ev
    rw [eh] at I1
    cases r1
    exact PySem.W.callWith_K (h₀ := X.base) I.ok.mod.kin M.kp (thn (ha.pa.run pos pins s1 σ H _ I1 h) fun us s2 ⟨vs, H2, I2, rr, qq⟩ => ⟨I2.kIn, run_make M F hr hb .nil hx I2 rr qq⟩) he hpl
  · unfold mkVM at q
    split at q
    · rename_i D e1
      split at q
      · rename_i hD
        subst hD
        obtain ⟨v, h1, h2⟩ := R.sl.2 j _ e1
        cases (show v = .ref (clA X.K D) from h2)
        exact ⟨h1, em_make hn ha.am R q Q kk⟩
      · cases q
    · cases q
/-! ### C.m(..), m a class method -/
theorem am_consX {K : PySem.W.Frag} {te : TE} {m : M Vl} {tes : TA} {mes : M (List Vl)} (h : EM K te m) (hr : AM K tes mes) : AM K (tCons te tes) (consM m mes) := fun {μ Hd H σ E r E'} R q Q k => by
  obtain ⟨x, E1, e1, e2⟩ := bindM_some q
  obtain ⟨xs, E2, e3, e4⟩ := bindM_some e2
  cases e4
  refine h R e1 _ fun μ1 Hd1 H1 v g1 R1 r1 => ?_
  exact hr R1 e3 _ fun μ2 Hd2 H2 vs g2 R2 r2 => k μ2 Hd2 H2 _ (g1.trans g2) R2 (.cons (Rv.gr g2 r1) r2)
structure CmOk (K : PySem.W.Frag) (C : Addr) (m : Str) (p g : Addr) (mc : Value) : Prop where
  rd : ClX.CRead K C mc
  mt : ClX.CMet K C mc m p g
theorem xcm {m : Str} {g pp : Addr} {mc : Value} {pl : Sem Bool} (c : CmOk X.K (clA X.K C) m pp g mc) (F : FnOk X.prog X.w X.K X.mg X.base CX k g fd ps (spM X.K (n + 1) G)) (hr : Room k X.A) (hb : Binds X.K fd ps []) (hm : X.mg C = some (.ref (clA X.K C)))
    (ha : Ax X (e :: es) tes mes) (hn : ∀ (E : En) (rs : List Vl) (E' : En), mes E = some (rs, E') → rs.length = n) (hx : Passes CX X E) (hg : Gl X C := by rfl) (hdb : (C == ("__debug__" : Str)) = false := by decide)
    (hst : starEach (e :: es) X.env = (false, eval e X.env) :: starEach es X.env := by rfl) (hpl : (backTo pos (starEach es X.env)).any (·.1) = false := by rfl)
    (ht : eval (.Call (.Attribute (.Name C p2) m apos) (e :: es) [] pos) X.env = (do
      let ov ← eval (.Name C p2) X.env
      standAt apos.atName
      let (f, first) ← holding [ov] (getMethod ov m pl)
      callWith pos f first (backTo pos (starEach (e :: es) X.env)) (backToKw pos (keywordEach [] X.env))) := by rfl) :
    Ex_ X (.Call (.Attribute (.Name C p2) m apos) (e :: es) [] pos) (ClX.tCMeth (clA X.K C) (fun vs H Q E => spM X.K (n + 1) G (vs ++ []) H Q E) E (tC (.ref (clA X.K C))) tes) (callM G (consM (retM (.d (.cls C))) mes)) := by
  refine ⟨ClX.pe_cmeth (pe_glob hg hm (v := .ref (clA X.K C)) rfl hdb) c.rd c.mt (F.raw hb .nil) hr hx ha.pa hst hpl ht, ?_⟩
  have h1 : EM X.K (tCall (spM X.K (n + 1) G) [] E (tCons (tC (.ref (clA X.K C))) tes)) (callM G (consM (retM (.d (.cls C))) mes)) := by
    refine em_call (n := n + 1) (fun E rs E' q => ?_) (am_consX (em_c (d := .cls C) fun _ => rfl) ha.am)
    obtain ⟨x, E1, q1, q2⟩ := bindM_some q
    obtain ⟨ys, E2, q3, q4⟩ := bindM_some q2
    cases q4
    rw [List.length_cons, hn _ _ _ q3]
  exact fun {μ Hd H σ E1 r E'} R q Q kk => ⟨rfl, h1 R q Q kk⟩
/-! ### keys that are not in a written dict -/
def ADic (K : PySem.W.Frag) (d : Addr) (tb : List (Str × Dt)) : Prop := ∀ z, look2 z tb = none → PySem.W.nsIn K d z = some none
def inAM (neg : Bool) (tb : List (Str × Dt)) (ma : M Vl) : M Vl := bindM ma fun y => match y with
  | .d (.str z) => fun E => some (.d (.bl (if (look2 z tb).isSome = true then !neg else neg)), E)
  | _ => failM
theorem inAM_some {neg : Bool} {tb : List (Str × Dt)} {ma : M Vl} {E E' : En} {r : Vl} (e : inAM neg tb ma E = some (r, E')) : ∃ z, ma E = some (.d (.str z), E') ∧ ((∃ v, look2 z tb = some v ∧ r = .d (.bl (!neg))) ∨ (look2 z tb = none ∧ r = .d (.bl neg))) := by
  obtain ⟨y, E1, e1, e2⟩ := bindM_some e
  split at e2
  · rename_i z
    cases e2
    cases e3 : look2 z tb with
    | some v => exact ⟨z, e1, .inl ⟨v, e3, rfl⟩⟩
    | none => exact ⟨z, e1, .inr ⟨e3, rfl⟩⟩
  · cases e2
theorem tinA {x : Str} {d : Addr} {tb0 : List (Str × Dt)} (D : WDic X.K X.w d tb0) (N : ADic X.K d tb0) (hm : X.mg x = some (.ref d)) (ha : Ex_ X a ta ma) (hk : behindInMarks .In (.Name x p) = false := by rfl) (hg : Gl X x := by rfl) (hdb : (x == ("__debug__" : Str)) = false := by decide) :
    Tx X (.Compare a [.In] [.Name x p] pos) (tTest (tOp (fun x y H Q => ∃ (z : Str) (r : Option Value), x = .str z ∧ y = .ref d ∧ PySem.W.nsIn X.K d z = some r ∧ Q (.bl r.isSome) H) ta (tC (.ref d)))) (bindM (inAM false tb0 ma) boolM) :=
  ⟨pt_cmpR (by
    obtain ⟨es, n, kd⟩ := D.at_
    exact op_in_kd kd) ha.pe (pe_glob hg hm (v := .ref d) rfl hdb) hk, tm_test fun {μ Hd H σ E r E'} R e Q q => by
    obtain ⟨z, e1, cs⟩ := inAM_some e
    refine ha.em R e1 _ fun μ1 Hd1 H1 vy g1 R1 r1 => ?_
    rcases cs with ⟨v, e2, rfl⟩ | ⟨hz, rfl⟩
    · obtain ⟨u, y, h1, h2, h3⟩ := D.tab z v e2
      exact ⟨z, some u, r1, rfl, h1, q μ1 Hd1 H1 _ g1 R1 rfl⟩
    · exact ⟨z, none, r1, rfl, N z hz, q μ1 Hd1 H1 _ g1 R1 rfl⟩⟩
theorem tninA {x : Str} {d : Addr} {tb0 : List (Str × Dt)} (D : WDic X.K X.w d tb0) (N : ADic X.K d tb0) (hm : X.mg x = some (.ref d)) (ha : Ex_ X a ta ma) (hk : behindInMarks .NotIn (.Name x p) = false := by rfl) (hg : Gl X x := by rfl) (hdb : (x == ("__debug__" : Str)) = false := by decide) :
    Tx X (.Compare a [.NotIn] [.Name x p] pos) (tTest (tOp (fun x y H Q => ∃ (z : Str) (r : Option Value), x = .str z ∧ y = .ref d ∧ PySem.W.nsIn X.K d z = some r ∧ Q (.bl (!r.isSome)) H) ta (tC (.ref d)))) (bindM (inAM true tb0 ma) boolM) :=
  ⟨pt_cmpR (by
    obtain ⟨es, n, kd⟩ := D.at_
    exact op_notIn_kd kd) ha.pe (pe_glob hg hm (v := .ref d) rfl hdb) hk, tm_test fun {μ Hd H σ E r E'} R e Q q => by
    obtain ⟨z, e1, cs⟩ := inAM_some e
    refine ha.em R e1 _ fun μ1 Hd1 H1 vy g1 R1 r1 => ?_
    rcases cs with ⟨v, e2, rfl⟩ | ⟨hz, rfl⟩
    · obtain ⟨u, y, h1, h2, h3⟩ := D.tab z v e2
      exact ⟨z, some u, r1, rfl, h1, q μ1 Hd1 H1 _ g1 R1 rfl⟩
    · exact ⟨z, none, r1, rfl, N z hz, q μ1 Hd1 H1 _ g1 R1 rfl⟩⟩
theorem adic_mk {K : PySem.W.Frag} {d : Addr} {tb : List (Str × Dt)} {es : Array DictEntry} {n : Nat} {ts : List Tok} (v : K.lookup d = some ⟨.type "dict", none, .dict es n, #[]⟩) (hk : es.toList.map (·.key) = List.zipWith (fun (p : Str × Dt) t => Value.str p.1 t) tb ts) (hl : tb.length = ts.length) : ADic K d tb := fun z hz => by
  have h1 : ∀ {l : List DictEntry} {tb : List (Str × Dt)} {ts : List Tok}, l.map (·.key) = List.zipWith (fun (p : Str × Dt) t => Value.str p.1 t) tb ts → tb.length = ts.length → look2 z tb = none → l.find? (·.key.isStr z) = none ∧ l.any (·.refKey) = false := by
    intro l
    induction l with
    | nil => intro tb ts _ _ _; exact ⟨rfl, rfl⟩
    | cons e l ih =>
      intro tb ts h hl hz
      cases tb with
      | nil => simp at h
      | cons p tb =>
        cases ts with
        | nil => simp at hl
        | cons t ts =>
          simp only [List.map_cons, List.zipWith_cons_cons, List.cons.injEq] at h
          obtain ⟨k, x⟩ := p
          have hz : (if z = k then some x else look2 z tb) = none := hz
          by_cases hzk : z = k
          · rw [if_pos hzk] at hz
            cases hz
          · rw [if_neg hzk] at hz
            obtain ⟨i1, i2⟩ := ih h.2 (by simpa using hl) hz
            have hk0 : e.key = Value.str k t := h.1
            constructor
            · rw [List.find?_cons, i1]
              have : e.key.isStr z = false := by
                rw [hk0]
                show (k == z) = false
                exact beq_eq_false_iff_ne.mpr fun q => hzk q.symm
              rw [this]
            · rw [List.any_cons, i2, Bool.or_false]
              unfold DictEntry.refKey
              rw [hk0]
  unfold PySem.W.nsIn
  rw [v]
  obtain ⟨i1, i2⟩ := h1 hk hl hz
  simp only [i1, i2]
  rfl
end
end Hk
/-! Hk8: a law's own promise. -/
namespace Hk
open PySem PySem.Spec PyProof.Rows L2 Evl
def spLaw (K : PySem.W.Frag) : Sp := fun vs H Q _ => ∃ (a : Addr) (ns : List Int), vs = [.ref a] ∧ SqL K H a (ns.map V.int) ∧ ns.length ≤ 63 ∧ ∀ H', Q (.bl true) H'
theorem rpA_ints {K : PySem.W.Frag} {H : Hp} : ∀ ns : List Int, RpA K H (ns.map Dt.int) (ns.map V.int)
  | [] => rfl
  | n :: ns => ⟨.int n, ns.map V.int, rfl, rfl, rpA_ints ns⟩
theorem law_of {K : PySem.W.Frag} {G : Fn} (hG : ∀ ns : List Int, ns.length ≤ 63 → G [.d (.sq (ns.map .int))] [] = some (.d (.bl true), [])) : ∀ vs H Q E, spLaw K vs H Q E → spM K 1 G vs H Q E := fun vs H Q E h => by
  obtain ⟨a, ns, rfl, hS, hl, k⟩ := h
  refine ⟨rfl, [], H, [], [.d (.sq (ns.map .int))], .d (.bl true), [], ⟨Ex.refl H, rfl, fun k c a h => by simp at h, fun j k a c e h => by simp at h⟩, .cons ⟨a, ns.map V.int, rfl, hS, rpA_ints ns⟩ .nil, hG ns hl, fun μ' Hd' H' v g w r => ?_⟩
  cases (show v = .bl true from r)
  exact k H'
end Hk
namespace K04
open PySem PySem.Spec PyProof.Rows L2 Evl Hk
/-! ### the text by places -/
def topS (i : Nat) : Stmt := PySem.Challenge.pw_boxfall_k04_texts_of_sayings.main.body.getD i (.Pass ⟨0, 0, 0, 0⟩)
abbrev s_is_small : Stmt := topS 11
abbrev N_is_small : List Str := ["sign"]
theorem sc_is_small : FnScope N_is_small ["sign"] (defScope s_is_small) := ⟨rfl, rfl, rfl, by decide +kernel, rfl, by decide +kernel, by decide +kernel⟩
abbrev s_is_word : Stmt := topS 12
abbrev N_is_word : List Str := ["thing", "sign"]
theorem sc_is_word : FnScope N_is_word ["thing"] (defScope s_is_word) := ⟨rfl, rfl, rfl, by decide +kernel, rfl, by decide +kernel, by decide +kernel⟩
abbrev s_is_name : Stmt := topS 13
abbrev N_is_name : List Str := ["thing"]
theorem sc_is_name : FnScope N_is_name ["thing"] (defScope s_is_name) := ⟨rfl, rfl, rfl, by decide +kernel, rfl, by decide +kernel, by decide +kernel⟩
abbrev s_is_who : Stmt := topS 14
abbrev N_is_who : List Str := ["thing"]
theorem sc_is_who : FnScope N_is_who ["thing"] (defScope s_is_who) := ⟨rfl, rfl, rfl, by decide +kernel, rfl, by decide +kernel, by decide +kernel⟩
abbrev s_wrong_in : Stmt := topS 15
abbrev N_wrong_in : List Str := ["item", "word", "at"]
theorem sc_wrong_in : FnScope N_wrong_in ["item"] (defScope s_wrong_in) := ⟨rfl, rfl, rfl, by decide +kernel, rfl, by decide +kernel, by decide +kernel⟩
abbrev s_items_of : Stmt := topS 17
abbrev N_items_of : List Str := ["form", "items", "steps", "todo", "item", "outer", "at", "wrong", "below"]
theorem sc_items_of : FnScope N_items_of ["form"] (defScope s_items_of) := ⟨rfl, rfl, rfl, by decide +kernel, rfl, by decide +kernel, by decide +kernel⟩
abbrev s_built : Stmt := topS 18
abbrev N_built : List Str := ["items", "signs", "made", "item", "many", "sign"]
theorem sc_built : FnScope N_built ["items"] (defScope s_built) := ⟨rfl, rfl, rfl, by decide +kernel, rfl, by decide +kernel, by decide +kernel⟩
abbrev s_signs_of : Stmt := topS 19
abbrev N_signs_of : List Str := ["form"]
theorem sc_signs_of : FnScope N_signs_of ["form"] (defScope s_signs_of) := ⟨rfl, rfl, rfl, by decide +kernel, rfl, by decide +kernel, by decide +kernel⟩
abbrev s_text_with : Stmt := topS 25
abbrev N_text_with : List Str := ["sign", "inner", "word"]
theorem sc_text_with : FnScope N_text_with ["sign", "inner"] (defScope s_text_with) := ⟨rfl, rfl, rfl, by decide +kernel, rfl, by decide +kernel, by decide +kernel⟩
abbrev s_texts_of : Stmt := topS 26
abbrev N_texts_of : List Str := ["signs", "texts", "made", "sign", "inner", "text", "_"]
theorem sc_texts_of : FnScope N_texts_of ["signs"] (defScope s_texts_of) := ⟨rfl, rfl, rfl, by decide +kernel, rfl, by decide +kernel, by decide +kernel⟩
abbrev s_piece_at : Stmt := topS 27
abbrev N_piece_at : List Str := ["text", "at", "end"]
theorem sc_piece_at : FnScope N_piece_at ["text", "at"] (defScope s_piece_at) := ⟨rfl, rfl, rfl, by decide +kernel, rfl, by decide +kernel, by decide +kernel⟩
abbrev s_pieces_of : Stmt := topS 28
abbrev N_pieces_of : List Str := ["text", "pieces", "at", "piece"]
theorem sc_pieces_of : FnScope N_pieces_of ["text"] (defScope s_pieces_of) := ⟨rfl, rfl, rfl, by decide +kernel, rfl, by decide +kernel, by decide +kernel⟩
abbrev s_leaf : Stmt := topS 29
abbrev N_leaf : List Str := ["piece", "words"]
theorem sc_leaf : FnScope N_leaf ["piece"] (defScope s_leaf) := ⟨rfl, rfl, rfl, by decide +kernel, rfl, by decide +kernel, by decide +kernel⟩
abbrev s_are_forms : Stmt := topS 30
abbrev N_are_forms : List Str := ["things", "thing"]
theorem sc_are_forms : FnScope N_are_forms ["things"] (defScope s_are_forms) := ⟨rfl, rfl, rfl, by decide +kernel, rfl, by decide +kernel, by decide +kernel⟩
abbrev s_prefixed : Stmt := topS 31
abbrev N_prefixed : List Str := ["piece", "behind"]
theorem sc_prefixed : FnScope N_prefixed ["piece", "behind"] (defScope s_prefixed) := ⟨rfl, rfl, rfl, by decide +kernel, rfl, by decide +kernel, by decide +kernel⟩
abbrev s_bracketed : Stmt := topS 32
abbrev N_bracketed : List Str := ["behind"]
theorem sc_bracketed : FnScope N_bracketed ["behind"] (defScope s_bracketed) := ⟨rfl, rfl, rfl, by decide +kernel, rfl, by decide +kernel, by decide +kernel⟩
abbrev s_form_of : Stmt := topS 33
abbrev N_form_of : List Str := ["text", "read", "piece"]
theorem sc_form_of : FnScope N_form_of ["text"] (defScope s_form_of) := ⟨rfl, rfl, rfl, by decide +kernel, rfl, by decide +kernel, by decide +kernel⟩
abbrev s_Saying___init__ : Stmt := inClass (topS 35) 0
abbrev N_Saying___init__ : List Str := ["self", "form"]
theorem sc_Saying___init__ : FnScope N_Saying___init__ ["self", "form"] (defScope s_Saying___init__) := ⟨rfl, rfl, rfl, by decide +kernel, rfl, by decide +kernel, by decide +kernel⟩
abbrev s_Saying_read : Stmt := inClass (topS 35) 1
abbrev N_Saying_read : List Str := ["cls", "text"]
theorem sc_Saying_read : FnScope N_Saying_read ["cls", "text"] (defScope s_Saying_read) := ⟨rfl, rfl, rfl, by decide +kernel, rfl, by decide +kernel, by decide +kernel⟩
abbrev s_Saying_form : Stmt := inClass (topS 35) 2
abbrev N_Saying_form : List Str := ["self"]
theorem sc_Saying_form : FnScope N_Saying_form ["self"] (defScope s_Saying_form) := ⟨rfl, rfl, rfl, by decide +kernel, rfl, by decide +kernel, by decide +kernel⟩
abbrev s_Saying_text : Stmt := inClass (topS 35) 3
abbrev N_Saying_text : List Str := ["self"]
theorem sc_Saying_text : FnScope N_Saying_text ["self"] (defScope s_Saying_text) := ⟨rfl, rfl, rfl, by decide +kernel, rfl, by decide +kernel, by decide +kernel⟩
abbrev s__law_stream : Stmt := topS 37
abbrev N__law_stream : List Str := ["_law_script", "_law_k", "_law_cell"]
theorem sc__law_stream : FnScope N__law_stream ["_law_script", "_law_k"] (defScope s__law_stream) := ⟨rfl, rfl, rfl, by decide +kernel, rfl, by decide +kernel, by decide +kernel⟩
abbrev s__law_draw : Stmt := topS 38
abbrev N__law_draw : List Str := ["_law_stream_here", "_law_many", "_law_digit", "_law_spread"]
theorem sc__law_draw : FnScope N__law_draw ["_law_stream_here", "_law_many"] (defScope s__law_draw) := ⟨rfl, rfl, rfl, by decide +kernel, rfl, by decide +kernel, by decide +kernel⟩
abbrev s__law_pick : Stmt := topS 39
abbrev N__law_pick : List Str := ["_law_stream_here", "_law_things"]
theorem sc__law_pick : FnScope N__law_pick ["_law_stream_here", "_law_things"] (defScope s__law_pick) := ⟨rfl, rfl, rfl, by decide +kernel, rfl, by decide +kernel, by decide +kernel⟩
abbrev s__law_text : Stmt := topS 40
abbrev N__law_text : List Str := ["_law_form", "_law_kind", "_law_sign"]
theorem sc__law_text : FnScope N__law_text ["_law_form"] (defScope s__law_text) := ⟨rfl, rfl, rfl, by decide +kernel, rfl, by decide +kernel, by decide +kernel⟩
abbrev s__law_atoms : Stmt := topS 43
abbrev N__law_atoms : List Str := ["_law_found"]
theorem sc__law_atoms : FnScope N__law_atoms [] (defScope s__law_atoms) := ⟨rfl, rfl, rfl, by decide +kernel, rfl, by decide +kernel, by decide +kernel⟩
abbrev s__law_free : Stmt := topS 44
abbrev N__law_free : List Str := ["_law_stream_here", "_law_atoms_here", "_law_size", "_law_kind", "_law_first"]
theorem sc__law_free : FnScope N__law_free ["_law_stream_here", "_law_atoms_here", "_law_size"] (defScope s__law_free) := ⟨rfl, rfl, rfl, by decide +kernel, rfl, by decide +kernel, by decide +kernel⟩
abbrev s_law : Stmt := topS 45
abbrev N_law : List Str := ["_law_script", "_law_turn", "_law_stream_here", "_law_more", "_law_form", "_law_text_here"]
theorem sc_law : FnScope N_law ["_law_script"] (defScope s_law) := ⟨rfl, rfl, rfl, by decide +kernel, rfl, by decide +kernel, by decide +kernel⟩
def k_FORMS_IN : List (Str × Dt) := [("yes", (.int 0)), ("no", (.int 0)), ("letter", (.int 0)), ("act", (.int 0)), ("not", (.int 1)), ("and", (.int 2)), ("or", (.int 2)), ("if", (.int 2)), ("box", (.int 1))]
def k_AHEAD_WORDS : List (Str × Dt) := [("~", (.str "not")), ("#", (.str "box"))]
def k_BETWEEN_WORDS : List (Str × Dt) := [(" & ", (.str "and")), (" | ", (.str "or")), (" > ", (.str "if"))]
def k_AHEAD : List (Str × Dt) := [("not", (.str "~")), ("box", (.str "#"))]
def k_BETWEEN : List (Str × Dt) := [("and", (.str " & ")), ("or", (.str " | ")), ("if", (.str " > "))]
def k_WORDS_IN : List (Str × Dt) := [("yes", (.int 0)), ("no", (.int 0)), ("letter", (.int 1)), ("act", (.int 2)), ("not", (.int 0)), ("and", (.int 0)), ("or", (.int 0)), ("if", (.int 0)), ("box", (.int 0))]
def k_KEPT_WORDS : Dt := .tup [(.str "yes"), (.str "no"), (.str "me"), (.str "him"), (.str "x")]
/-! ### what each def does -/
def m_is_small : En → Option Rs :=
  (retS (chainV (op2 leSF) (op2 leSF) (retM (.d (.str "a"))) (vM 0) (retM (.d (.str "z")))))
def f_is_small : Fn := fnOf 0 (m_is_small)
def m_is_word (g_is_small : Fn) : En → Option Rs :=
  (seqS (ifS (orM (notM (bindM (bindM (vM 0) (seeF (isiF "str"))) truM)) (notM (bindM (chainV (op2 leF) (op2 leF) (retM (.d (.int 1))) (bindM (consM (vM 0) (retM [])) (fn1 lenD)) (retM (.d (.int 8)))) boolM)))
    (retS (retM (.d (.bl false))))
    nilS)
    (retS (bindM (consM (compM [1] (strM (vM 0)) (nameG 1) (retM true) (callM g_is_small (consM (fzV (vM 1)) (retM [])))) (retM [])) (fn1 allD))))
def f_is_word (g_is_small : Fn) : Fn := fnOf 1 (m_is_word g_is_small)
def m_is_name (g_is_word : Fn) : En → Option Rs :=
  (retS (andV (callM g_is_word (consM (fzV (vM 0)) (retM []))) (bindM (vM 0) fun x => bindM (retM (.d k_KEPT_WORDS)) (op2 (inF true) x))))
def f_is_name (g_is_word : Fn) : Fn := fnOf 0 (m_is_name g_is_word)
def m_is_who (g_is_word : Fn) : En → Option Rs :=
  (retS (andV (callM g_is_word (consM (fzV (vM 0)) (retM []))) (orV (bindM (vM 0) fun x => bindM (tupM (consM (retM (.d (.str "me"))) (consM (retM (.d (.str "him"))) (retM [])))) (op2 (inF false) x)) (bindM (vM 0) fun x => bindM (retM (.d k_KEPT_WORDS)) (op2 (inF true) x)))))
def f_is_who (g_is_word : Fn) : Fn := fnOf 0 (m_is_who g_is_word)
def m_wrong_in (g_is_name g_is_who : Fn) : En → Option Rs :=
  (seqS (ifS (orM (notM (bindM (bindM (vM 0) (seeF (isi2F "tuple" "list"))) truM)) (orM (bindM (bindM (bindM (consM (vM 0) (retM [])) (fn1 lenD)) fun x => bindM (retM (.d (.int 0))) (op2 eqF x)) boolM) (notM (bindM (bindM (bindM (vM 0) fun x => bindM (retM (.d (.int 0))) (ixF x)) (seeF (isiF "str"))) truM))))
    (retS (tupM (retM [])))
    nilS)
    (seqS (setS 1 (bindM (vM 0) fun x => bindM (retM (.d (.int 0))) (ixF x)))
    (seqS (ifS (orM (bindM (inDM true k_FORMS_IN (vM 1)) boolM) (bindM (bindM (bindM (consM (vM 0) (retM [])) (fn1 lenD)) fun x => bindM (bindM (bindM (retM (.d (.int 1))) fun x => bindM (ixDM k_WORDS_IN (vM 1)) (addF x)) fun x => bindM (ixDM k_FORMS_IN (vM 1)) (addF x)) (op2 neF x)) boolM))
    (retS (tupM (retM [])))
    nilS)
    (seqS (ifS (andM (bindM (bindM (vM 1) fun x => bindM (retM (.d (.str "letter"))) (op2 eqF x)) boolM) (notM (bindM (callM g_is_name (consM (fzV (bindM (vM 0) fun x => bindM (retM (.d (.int 1))) (ixF x))) (retM []))) truM)))
    (retS (tupM (consM (retM (.d (.int 1))) (retM []))))
    nilS)
    (seqS (ifS (bindM (bindM (vM 1) fun x => bindM (retM (.d (.str "act"))) (op2 eqF x)) boolM)
    (forS (itemsM (tupM (consM (retM (.d (.int 1))) (consM (retM (.d (.int 2))) (retM []))))) (nameG 2)
    (ifS (notM (bindM (callM g_is_who (consM (fzV (bindM (vM 0) fun x => bindM (vM 2) (ixF x))) (retM []))) truM))
    (retS (tupM (consM (vM 2) (retM []))))
    nilS))
    nilS)
    (retS (retM (.d .non))))))))
def f_wrong_in (g_is_name g_is_who : Fn) : Fn := fnOf 2 (m_wrong_in g_is_name g_is_who)
def m_items_of (g_wrong_in : Fn) : En → Option Rs :=
  (seqS (setS 1 (lstM (retM [])))
    (seqS (setS 2 (lstM (retM [])))
    (seqS (setS 3 (lstM (consM (tupM (consM (vM 0) (consM (negM (retM (.d (.int 1)))) (consM (retM (.d (.int 0))) (retM []))))) (retM []))))
    (seqS (whileS (bindM (vM 3) truM)
    (seqS (asgS (bmM "list" (vM 3) (retM []) popF) (tupG [(nameG 4), (nameG 5), (nameG 6)]))
    (seqS (dropS (bmM "list" (vM 2) (consM (tupM (consM (vM 5) (consM (vM 6) (retM [])))) (retM [])) appF))
    (seqS (setS 7 (callM g_wrong_in (consM (fzV (vM 4)) (retM []))))
    (seqS (ifS (bindM (bindM (vM 7) fun x => bindM (retM (.d .non)) (op2 (isNF true) x)) boolM)
    (fun _ => none)
    nilS)
    (seqS (ifS (bindM (bindM (bindM (consM (vM 1) (retM [])) (fn1 lenD)) fun x => bindM (retM (.d (.int 100000))) (op2 eqF x)) boolM)
    (fun _ => none)
    nilS)
    (seqS (forS (rng3M (consM (ixDM k_FORMS_IN (bindM (vM 4) fun x => bindM (retM (.d (.int 0))) (ixF x))) (consM (retM (.d (.int 0))) (consM (negM (retM (.d (.int 1)))) (retM []))))) (nameG 8)
    (dropS (bmM "list" (vM 3) (consM (tupM (consM (bindM (vM 4) fun x => bindM (vM 8) (ixF x)) (consM (bindM (consM (vM 1) (retM [])) (fn1 lenD)) (consM (vM 8) (retM []))))) (retM [])) appF)))
    (dropS (bmM "list" (vM 1) (consM (vM 4) (retM [])) appF)))))))) 100000)
    (retS (vM 1))))))
def f_items_of (g_wrong_in : Fn) : Fn := fnOf 8 (m_items_of g_wrong_in)
def m_built : En → Option Rs :=
  (seqS (setS 1 (lstM (retM [])))
    (seqS (setS 2 (lstM (retM [])))
    (seqS (forS (itemsM (revM (vM 0))) (nameG 3)
    (seqS (setS 4 (ixDM k_FORMS_IN (bindM (vM 3) fun x => bindM (retM (.d (.int 0))) (ixF x))))
    (seqS (ifS (bindM (bindM (vM 4) fun x => bindM (retM (.d (.int 0))) (op2 eqF x)) boolM)
    (setS 5 (bindM (consM (vM 3) (retM [])) (tupleF)))
    (ifS (bindM (bindM (vM 4) fun x => bindM (retM (.d (.int 1))) (op2 eqF x)) boolM)
    (setS 5 (tupM (consM (bindM (vM 3) fun x => bindM (retM (.d (.int 0))) (ixF x)) (consM (bmM "list" (vM 2) (retM []) popF) (retM [])))))
    (setS 5 (tupM (consM (bindM (vM 3) fun x => bindM (retM (.d (.int 0))) (ixF x)) (consM (bmM "list" (vM 2) (retM []) popF) (consM (bmM "list" (vM 2) (retM []) popF) (retM []))))))))
    (seqS (dropS (bmM "list" (vM 2) (consM (vM 5) (retM [])) appF))
    (dropS (bmM "list" (vM 1) (consM (vM 5) (retM [])) appF))))))
    (retS (revM (vM 1))))))
def f_built : Fn := fnOf 5 (m_built)
def m_signs_of (g_built g_items_of : Fn) : En → Option Rs :=
  (retS (callM g_built (consM (fzV (callM g_items_of (consM (fzV (vM 0)) (retM [])))) (retM []))))
def f_signs_of (g_built g_items_of : Fn) : Fn := fnOf 0 (m_signs_of g_built g_items_of)
def m_text_with : En → Option Rs :=
  (seqS (setS 2 (bindM (vM 0) fun x => bindM (retM (.d (.int 0))) (ixF x)))
    (seqS (ifS (bindM (bindM (vM 2) fun x => bindM (retM (.d (.str "letter"))) (op2 eqF x)) boolM)
    (retS (bindM (vM 0) fun x => bindM (retM (.d (.int 1))) (ixF x)))
    nilS)
    (seqS (ifS (bindM (bindM (vM 2) fun x => bindM (retM (.d (.str "act"))) (op2 eqF x)) boolM)
    (retS (jsM [(fmtM (bindM (vM 0) fun x => bindM (retM (.d (.int 1))) (ixF x))), (retM (.d (.str "-"))), (fmtM (bindM (vM 0) fun x => bindM (retM (.d (.int 2))) (ixF x)))] Str.empty))
    nilS)
    (seqS (ifS (bindM (inAM false k_AHEAD (vM 2)) boolM)
    (retS (bindM (ixDM k_AHEAD (vM 2)) fun x => bindM (bindM (vM 1) fun x => bindM (retM (.d (.int 0))) (ixF x)) (addF x)))
    nilS)
    (seqS (ifS (bindM (inAM false k_BETWEEN (vM 2)) boolM)
    (retS (jsM [(retM (.d (.str "("))), (fmtM (bindM (vM 1) fun x => bindM (retM (.d (.int 0))) (ixF x))), (fmtM (ixDM k_BETWEEN (vM 2))), (fmtM (bindM (vM 1) fun x => bindM (retM (.d (.int 1))) (ixF x))), (retM (.d (.str ")")))] Str.empty))
    nilS)
    (retS (vM 2)))))))
def f_text_with : Fn := fnOf 1 (m_text_with)
def m_texts_of (g_text_with : Fn) : En → Option Rs :=
  (seqS (setS 1 (lstM (retM [])))
    (seqS (setS 2 (lstM (retM [])))
    (seqS (forS (itemsM (revM (vM 0))) (nameG 3)
    (seqS (setS 4 (compM [6] (rng1M (consM (ixDM k_FORMS_IN (bindM (vM 3) fun x => bindM (retM (.d (.int 0))) (ixF x))) (retM []))) (nameG 6) (retM true) (bmM "list" (vM 2) (retM []) popF)))
    (seqS (setS 5 (callM g_text_with (consM (fzV (vM 3)) (consM (fzV (vM 4)) (retM [])))))
    (seqS (dropS (bmM "list" (vM 2) (consM (vM 5) (retM [])) appF))
    (dropS (bmM "list" (vM 1) (consM (vM 5) (retM [])) appF))))))
    (retS (revM (vM 1))))))
def f_texts_of (g_text_with : Fn) : Fn := fnOf 6 (m_texts_of g_text_with)
def m_piece_at (g_is_small : Fn) : En → Option Rs :=
  (seqS (ifS (bindM (bindM (bindM (vM 0) fun x => bindM (vM 1) (ixF x)) fun x => bindM (retM (.d (.str "~#()"))) (op2 sgnF x)) boolM)
    (retS (bindM (vM 0) fun x => bindM (vM 1) (ixF x)))
    nilS)
    (seqS (ifS (bindM (inAM false k_BETWEEN_WORDS (bindM (vM 0) fun x => bindM (partM (vM 1)) fun l => bindM (partM (bindM (vM 1) fun x => bindM (retM (.d (.int 3))) (addF x))) fun h => slF x l h)) boolM)
    (retS (bindM (vM 0) fun x => bindM (partM (vM 1)) fun l => bindM (partM (bindM (vM 1) fun x => bindM (retM (.d (.int 3))) (addF x))) fun h => slF x l h))
    nilS)
    (seqS (setS 2 (vM 1))
    (seqS (whileS (andM (bindM (bindM (vM 2) fun x => bindM (bindM (consM (vM 0) (retM [])) (fn1 lenD)) (op2 ltF x)) boolM) (orM (bindM (callM g_is_small (consM (fzV (bindM (vM 0) fun x => bindM (vM 2) (ixF x))) (retM []))) truM) (bindM (bindM (bindM (vM 0) fun x => bindM (vM 2) (ixF x)) fun x => bindM (retM (.d (.str "-"))) (op2 eqF x)) boolM)))
    (augS 2 (fun i j => i + j) (retM (.d (.int 1)))) 100000)
    (seqS (ifS (bindM (bindM (vM 2) fun x => bindM (vM 1) (op2 eqF x)) boolM)
    (fun _ => none)
    nilS)
    (retS (bindM (vM 0) fun x => bindM (partM (vM 1)) fun l => bindM (partM (vM 2)) fun h => slF x l h)))))))
def f_piece_at (g_is_small : Fn) : Fn := fnOf 1 (m_piece_at g_is_small)
def m_pieces_of (g_piece_at : Fn) : En → Option Rs :=
  (seqS (setS 1 (lstM (retM [])))
    (seqS (setS 2 (retM (.d (.int 0))))
    (seqS (whileS (bindM (bindM (vM 2) fun x => bindM (bindM (consM (vM 0) (retM [])) (fn1 lenD)) (op2 ltF x)) boolM)
    (seqS (setS 3 (callM g_piece_at (consM (fzV (vM 0)) (consM (fzV (vM 2)) (retM [])))))
    (seqS (dropS (bmM "list" (vM 1) (consM (vM 3) (retM [])) appF))
    (augS 2 (fun i j => i + j) (bindM (consM (vM 3) (retM [])) (fn1 lenD))))) 100000)
    (retS (vM 1)))))
def f_pieces_of (g_piece_at : Fn) : Fn := fnOf 3 (m_pieces_of g_piece_at)
def m_leaf (g_is_name g_is_who : Fn) : En → Option Rs :=
  (seqS (ifS (bindM (bindM (vM 0) fun x => bindM (tupM (consM (retM (.d (.str "yes"))) (consM (retM (.d (.str "no"))) (retM [])))) (op2 (inF false) x)) boolM)
    (retS (tupM (consM (vM 0) (retM []))))
    nilS)
    (seqS (ifS (bindM (callM g_is_name (consM (fzV (vM 0)) (retM []))) truM)
    (retS (tupM (consM (retM (.d (.str "letter"))) (consM (vM 0) (retM [])))))
    nilS)
    (seqS (setS 1 (bmM "str" (vM 0) (consM (retM (.d (.str "-"))) (retM [])) splF))
    (seqS (ifS (andM (bindM (bindM (bindM (consM (vM 1) (retM [])) (fn1 lenD)) fun x => bindM (retM (.d (.int 2))) (op2 eqF x)) boolM) (andM (bindM (callM g_is_who (consM (fzV (bindM (vM 1) fun x => bindM (retM (.d (.int 0))) (ixF x))) (retM []))) truM) (bindM (callM g_is_who (consM (fzV (bindM (vM 1) fun x => bindM (retM (.d (.int 1))) (ixF x))) (retM []))) truM)))
    (retS (tupM (consM (retM (.d (.str "act"))) (consM (bindM (vM 1) fun x => bindM (retM (.d (.int 0))) (ixF x)) (consM (bindM (vM 1) fun x => bindM (retM (.d (.int 1))) (ixF x)) (retM []))))))
    nilS)
    (fun _ => none)))))
def f_leaf (g_is_name g_is_who : Fn) : Fn := fnOf 1 (m_leaf g_is_name g_is_who)
def m_are_forms : En → Option Rs :=
  (retS (compM [1] (itemsM (vM 0)) (nameG 1) (retM true) (bindM (vM 1) (seeF (isiF "tuple")))))
def f_are_forms : Fn := fnOf 1 (m_are_forms)
def m_prefixed (g_are_forms : Fn) : En → Option Rs :=
  (seqS (ifS (bindM (bindM (callM g_are_forms (consM (fzV (vM 1)) (retM []))) fun x => bindM (lstM (consM (retM (.d (.bl true))) (retM []))) (op2 neF x)) boolM)
    (fun _ => none)
    nilS)
    (retS (tupM (consM (ixDM k_AHEAD_WORDS (vM 0)) (consM (bindM (vM 1) fun x => bindM (retM (.d (.int 0))) (ixF x)) (retM []))))))
def f_prefixed (g_are_forms : Fn) : Fn := fnOf 0 (m_prefixed g_are_forms)
def m_bracketed (g_are_forms : Fn) : En → Option Rs :=
  (seqS (ifS (bindM (bindM (callM g_are_forms (consM (fzV (vM 0)) (retM []))) fun x => bindM (lstM (consM (retM (.d (.bl false))) (consM (retM (.d (.bl true))) (consM (retM (.d (.bl false))) (consM (retM (.d (.bl true))) (retM [])))))) (op2 neF x)) boolM)
    (fun _ => none)
    nilS)
    (seqS (ifS (orM (bindM (bindM (bindM (vM 0) fun x => bindM (retM (.d (.int 0))) (ixF x)) fun x => bindM (retM (.d (.str ")"))) (op2 neF x)) boolM) (bindM (inAM true k_BETWEEN_WORDS (bindM (vM 0) fun x => bindM (retM (.d (.int 2))) (ixF x))) boolM))
    (fun _ => none)
    nilS)
    (retS (tupM (consM (ixDM k_BETWEEN_WORDS (bindM (vM 0) fun x => bindM (retM (.d (.int 2))) (ixF x))) (consM (bindM (vM 0) fun x => bindM (retM (.d (.int 3))) (ixF x)) (consM (bindM (vM 0) fun x => bindM (retM (.d (.int 1))) (ixF x)) (retM []))))))))
def f_bracketed (g_are_forms : Fn) : Fn := fnOf 0 (m_bracketed g_are_forms)
def m_form_of (g_pieces_of g_prefixed g_bracketed g_leaf g_are_forms : Fn) : En → Option Rs :=
  (seqS (setS 1 (lstM (retM [])))
    (seqS (forS (itemsM (revM (callM g_pieces_of (consM (fzV (vM 0)) (retM []))))) (nameG 2)
    (ifS (bindM (inAM false k_AHEAD_WORDS (vM 2)) boolM)
    (setES (lstM (consM (callM g_prefixed (consM (fzV (vM 2)) (consM (fzV (bindM (vM 1) fun x => bindM (partM (negM (retM (.d (.int 1))))) fun l => bindM (retM none) fun h => slF x l h)) (retM [])))) (retM []))) (vM 1) 1)
    (ifS (bindM (bindM (vM 2) fun x => bindM (retM (.d (.str "("))) (op2 eqF x)) boolM)
    (setES (lstM (consM (callM g_bracketed (consM (fzV (bindM (vM 1) fun x => bindM (partM (negM (retM (.d (.int 4))))) fun l => bindM (retM none) fun h => slF x l h)) (retM []))) (retM []))) (vM 1) 4)
    (ifS (orM (bindM (bindM (vM 2) fun x => bindM (retM (.d (.str ")"))) (op2 eqF x)) boolM) (bindM (inAM false k_BETWEEN_WORDS (vM 2)) boolM))
    (dropS (bmM "list" (vM 1) (consM (vM 2) (retM [])) appF))
    (dropS (bmM "list" (vM 1) (consM (callM g_leaf (consM (fzV (vM 2)) (retM []))) (retM [])) appF))))))
    (seqS (ifS (bindM (bindM (callM g_are_forms (consM (fzV (vM 1)) (retM []))) fun x => bindM (lstM (consM (retM (.d (.bl true))) (retM []))) (op2 neF x)) boolM)
    (fun _ => none)
    nilS)
    (retS (bindM (vM 1) fun x => bindM (retM (.d (.int 0))) (ixF x))))))
def f_form_of (g_pieces_of g_prefixed g_bracketed g_leaf g_are_forms : Fn) : Fn := fnOf 2 (m_form_of g_pieces_of g_prefixed g_bracketed g_leaf g_are_forms)
def m_Saying___init__ (g_signs_of : Fn) : En → Option Rs :=
  (seqS (setFS "Saying" "_signs" (callM g_signs_of (consM (fzV (vM 1)) (retM []))) (vM 0))
    (setFS "Saying" "_form" (bindM (fldM "Saying" "_signs" (vM 0)) fun x => bindM (retM (.d (.int 0))) (ixF x)) (vM 0)))
def f_Saying___init__ (g_signs_of : Fn) : Fn := fnOf 0 (m_Saying___init__ g_signs_of)
def m_Saying_read (g_Saying___init__ g_form_of : Fn) : En → Option Rs :=
  (retS (mkVM 0 "Saying" g_Saying___init__ (consM (fzV (callM g_form_of (consM (fzV (vM 1)) (retM [])))) (retM []))))
def f_Saying_read (g_Saying___init__ g_form_of : Fn) : Fn := fnOf 0 (m_Saying_read g_Saying___init__ g_form_of)
def m_Saying_form : En → Option Rs :=
  (retS (fldM "Saying" "_form" (vM 0)))
def f_Saying_form : Fn := fnOf 0 (m_Saying_form)
def m_Saying_text (g_texts_of : Fn) : En → Option Rs :=
  (retS (bindM (callM g_texts_of (consM (fzV (fldM "Saying" "_signs" (vM 0))) (retM []))) fun x => bindM (retM (.d (.int 0))) (ixF x)))
def f_Saying_text (g_texts_of : Fn) : Fn := fnOf 0 (m_Saying_text g_texts_of)
def m__law_stream : En → Option Rs :=
  (seqS (setS 2 (ifM (bindM (bindM (vM 1) fun x => bindM (bindM (consM (vM 0) (retM [])) (fn1 lenD)) (op2 ltF x)) boolM) (bindM (consM (bindM (vM 0) fun x => bindM (vM 1) (ixF x)) (retM [])) (fn1 absD)) (retM (.d (.int 0)))))
    (retS (lstM (consM (ifM (bindM (bindM (vM 2) fun x => bindM (bindM (retM (.d (.int 10))) fun x => bindM (retM (.d (.int 18))) (op2 powF x)) (op2 geF x)) boolM) (vM 2) (retM (.d (.int 0)))) (consM (bindM (bindM (bindM (consM (vM 2) (retM [])) (fn1 intD)) fun x => bindM (retM (.d (.int 2147483647))) (op2 modF x)) fun x => bindM (bindM (retM (.d (.int 31))) fun x => bindM (vM 1) (mulF x)) (addF x)) (consM (retM (.d (.int 0))) (retM [])))))))
def f__law_stream : Fn := fnOf 1 (m__law_stream)
def m__law_draw : En → Option Rs :=
  (seqS (ifS (bindM (bindM (bindM (vM 0) fun x => bindM (retM (.d (.int 0))) (ixF x)) fun x => bindM (retM (.d (.int 0))) (op2 gtF x)) boolM)
    (seqS (setS 2 (bindM (bindM (consM (bindM (vM 0) fun x => bindM (retM (.d (.int 0))) (ixF x)) (retM [])) (fn1 intD)) fun x => bindM (vM 1) (op2 modF x)))
    (seqS (setIS (bindM (bindM (vM 0) fun x => bindM (retM (.d (.int 0))) (ixF x)) fun x => bindM (vM 1) (op2 fdivF x)) (vM 0) (retM (.d (.int 0))))
    (retS (vM 2))))
    nilS)
    (seqS (setIS (bindM (bindM (vM 0) fun x => bindM (retM (.d (.int 2))) (ixF x)) fun x => bindM (retM (.d (.int 1))) (addF x)) (vM 0) (retM (.d (.int 2))))
    (seqS (setS 3 (bindM (bindM (bindM (consM (bindM (bindM (bindM (vM 0) fun x => bindM (retM (.d (.int 1))) (ixF x)) fun x => bindM (bindM (retM (.d (.int 7919))) fun x => bindM (bindM (vM 0) fun x => bindM (retM (.d (.int 2))) (ixF x)) (mulF x)) (addF x)) fun x => bindM (retM (.d (.int 104729))) (addF x)) (retM [])) (fn1 intD)) fun x => bindM (retM (.d (.int 5))) (op2 powF x)) fun x => bindM (retM (.d (.int 2147483647))) (op2 modF x)))
    (retS (bindM (bindM (bindM (bindM (consM (bindM (bindM (vM 3) fun x => bindM (bindM (vM 0) fun x => bindM (retM (.d (.int 2))) (ixF x)) (addF x)) fun x => bindM (retM (.d (.int 40692))) (mulF x)) (retM [])) (fn1 intD)) fun x => bindM (retM (.d (.int 2147483629))) (op2 modF x)) fun x => bindM (retM (.d (.int 7))) (op2 fdivF x)) fun x => bindM (vM 1) (op2 modF x))))))
def f__law_draw : Fn := fnOf 2 (m__law_draw)
def m__law_pick (g__law_draw : Fn) : En → Option Rs :=
  (retS (bindM (vM 1) fun x => bindM (callM g__law_draw (consM (vM 0) (consM (fzV (bindM (consM (vM 1) (retM [])) (fn1 lenD))) (retM [])))) (ixF x)))
def f__law_pick (g__law_draw : Fn) : Fn := fnOf 0 (m__law_pick g__law_draw)
def m__law_text (g__law_text : Fn) : En → Option Rs :=
  (seqS (setS 1 (bindM (vM 0) fun x => bindM (retM (.d (.int 0))) (ixF x)))
    (seqS (ifS (bindM (bindM (vM 1) fun x => bindM (retM (.d (.str "letter"))) (op2 eqF x)) boolM)
    (retS (bindM (vM 0) fun x => bindM (retM (.d (.int 1))) (ixF x)))
    nilS)
    (seqS (ifS (bindM (bindM (vM 1) fun x => bindM (retM (.d (.str "act"))) (op2 eqF x)) boolM)
    (retS (bindM (bindM (bindM (vM 0) fun x => bindM (retM (.d (.int 1))) (ixF x)) fun x => bindM (retM (.d (.str "-"))) (addF x)) fun x => bindM (bindM (vM 0) fun x => bindM (retM (.d (.int 2))) (ixF x)) (addF x)))
    nilS)
    (seqS (ifS (bindM (bindM (vM 1) fun x => bindM (tupM (consM (retM (.d (.str "not"))) (consM (retM (.d (.str "box"))) (retM [])))) (op2 (inF false) x)) boolM)
    (retS (bindM (ifM (bindM (bindM (vM 1) fun x => bindM (retM (.d (.str "not"))) (op2 eqF x)) boolM) (retM (.d (.str "~"))) (retM (.d (.str "#")))) fun x => bindM (callM g__law_text (consM (fzV (bindM (vM 0) fun x => bindM (retM (.d (.int 1))) (ixF x))) (retM []))) (addF x)))
    nilS)
    (seqS (ifS (bindM (bindM (vM 1) fun x => bindM (tupM (consM (retM (.d (.str "and"))) (consM (retM (.d (.str "or"))) (consM (retM (.d (.str "if"))) (retM []))))) (op2 (inF false) x)) boolM)
    (seqS (setS 2 (dgM (dspM 3 [((retM (.d (.str "and"))), (retM (.d (.str " & ")))), ((retM (.d (.str "or"))), (retM (.d (.str " | ")))), ((retM (.d (.str "if"))), (retM (.d (.str " > "))))]) (vM 1)))
    (retS (bindM (bindM (bindM (bindM (retM (.d (.str "("))) fun x => bindM (callM g__law_text (consM (fzV (bindM (vM 0) fun x => bindM (retM (.d (.int 1))) (ixF x))) (retM []))) (addF x)) fun x => bindM (vM 2) (addF x)) fun x => bindM (callM g__law_text (consM (fzV (bindM (vM 0) fun x => bindM (retM (.d (.int 2))) (ixF x))) (retM []))) (addF x)) fun x => bindM (retM (.d (.str ")"))) (addF x))))
    nilS)
    (retS (vM 1)))))))
def f__law_text : Nat → Fn
  | 0 => fun _ _ => none
  | n + 1 => fnOf 2 (m__law_text (f__law_text n))
def m__law_atoms : En → Option Rs :=
  (seqS (setS 0 (lstM (consM (tupM (consM (retM (.d (.str "letter"))) (consM (retM (.d (.str "p"))) (retM [])))) (consM (tupM (consM (retM (.d (.str "letter"))) (consM (retM (.d (.str "q"))) (retM [])))) (consM (tupM (consM (retM (.d (.str "letter"))) (consM (retM (.d (.str "word"))) (retM [])))) (consM (tupM (consM (retM (.d (.str "act"))) (consM (retM (.d (.str "me"))) (consM (retM (.d (.str "him"))) (retM []))))) (retM [])))))))
    (retS (bindM (vM 0) fun x => bindM (lstM (consM (tupM (consM (retM (.d (.str "act"))) (consM (retM (.d (.str "him"))) (consM (retM (.d (.str "me"))) (retM []))))) (consM (tupM (consM (retM (.d (.str "act"))) (consM (retM (.d (.str "him"))) (consM (retM (.d (.str "abe"))) (retM []))))) (retM [])))) (addF x))))
def f__law_atoms : Fn := fnOf 1 (m__law_atoms)
def m__law_free (g__law_draw g__law_pick g__law_free : Fn) : En → Option Rs :=
  (seqS (ifS (orM (bindM (bindM (vM 2) fun x => bindM (retM (.d (.int 2))) (op2 ltF x)) boolM) (bindM (bindM (callM g__law_draw (consM (vM 0) (consM (retM (.d (.int 8))) (retM [])))) fun x => bindM (retM (.d (.int 0))) (op2 eqF x)) boolM))
    (retS (callM g__law_pick (consM (vM 0) (consM (fzV (ifM (bindM (bindM (callM g__law_draw (consM (vM 0) (consM (retM (.d (.int 4))) (retM [])))) fun x => bindM (retM (.d (.int 0))) (op2 eqF x)) boolM) (bindM (vM 1) fun x => bindM (lstM (consM (tupM (consM (retM (.d (.str "yes"))) (retM []))) (consM (tupM (consM (retM (.d (.str "no"))) (retM []))) (retM [])))) (addF x)) (vM 1))) (retM [])))))
    nilS)
    (seqS (setS 3 (callM g__law_pick (consM (vM 0) (consM (fzV (lstM (consM (retM (.d (.str "box"))) (consM (retM (.d (.str "box"))) (consM (retM (.d (.str "not"))) (consM (retM (.d (.str "and"))) (consM (retM (.d (.str "or"))) (consM (retM (.d (.str "if"))) (retM []))))))))) (retM [])))))
    (seqS (ifS (orM (bindM (bindM (vM 3) fun x => bindM (tupM (consM (retM (.d (.str "box"))) (consM (retM (.d (.str "not"))) (retM [])))) (op2 (inF false) x)) boolM) (bindM (bindM (vM 2) fun x => bindM (retM (.d (.int 3))) (op2 ltF x)) boolM))
    (seqS (setS 3 (ifM (bindM (bindM (vM 3) fun x => bindM (tupM (consM (retM (.d (.str "box"))) (consM (retM (.d (.str "not"))) (retM [])))) (op2 (inF false) x)) boolM) (vM 3) (retM (.d (.str "box")))))
    (retS (tupM (consM (vM 3) (consM (callM g__law_free (consM (vM 0) (consM (fzV (vM 1)) (consM (fzV (bindM (vM 2) fun x => bindM (retM (.d (.int 1))) (op2 subF x))) (retM []))))) (retM []))))))
    nilS)
    (seqS (setS 4 (bindM (retM (.d (.int 1))) fun x => bindM (callM g__law_draw (consM (vM 0) (consM (fzV (bindM (vM 2) fun x => bindM (retM (.d (.int 2))) (op2 subF x))) (retM [])))) (addF x)))
    (retS (tupM (consM (vM 3) (consM (callM g__law_free (consM (vM 0) (consM (fzV (vM 1)) (consM (fzV (vM 4)) (retM []))))) (consM (callM g__law_free (consM (vM 0) (consM (fzV (vM 1)) (consM (fzV (bindM (bindM (vM 2) fun x => bindM (retM (.d (.int 1))) (op2 subF x)) fun x => bindM (vM 4) (op2 subF x))) (retM []))))) (retM []))))))))))
def f__law_free (g__law_draw g__law_pick : Fn) : Nat → Fn
  | 0 => fun _ _ => none
  | n + 1 => fnOf 2 (m__law_free g__law_draw g__law_pick (f__law_free g__law_draw g__law_pick n))
def m_law (g__law_stream g__law_free g__law_atoms g_Saying_text g_Saying___init__ g__law_text g_Saying_form g_Saying_read : Fn) : En → Option Rs :=
  (seqS (forS (rng1M (consM (retM (.d (.int 8))) (retM []))) (nameG 1)
    (seqS (setS 2 (callM g__law_stream (consM (fzV (vM 0)) (consM (fzV (vM 1)) (retM [])))))
    (seqS (setS 3 (lstM (consM (tupM (consM (retM (.d (.str "letter"))) (consM (retM (.d (.str "abcdefgh"))) (retM [])))) (consM (tupM (consM (retM (.d (.str "act"))) (consM (retM (.d (.str "me"))) (consM (retM (.d (.str "me"))) (retM []))))) (consM (tupM (consM (retM (.d (.str "act"))) (consM (retM (.d (.str "zoe"))) (consM (retM (.d (.str "him"))) (retM []))))) (retM []))))))
    (seqS (dropS (bmM "list" (vM 3) (consM (lstM (consM (tupM (consM (retM (.d (.str "act"))) (consM (retM (.d (.str "abe"))) (consM (retM (.d (.str "zoe"))) (retM []))))) (consM (tupM (consM (retM (.d (.str "letter"))) (consM (retM (.d (.str "a"))) (retM [])))) (retM [])))) (retM [])) extF))
    (seqS (setS 4 (callM g__law_free (consM (vM 2) (consM (fzV (bindM (callM g__law_atoms (retM [])) fun x => bindM (vM 3) (addF x))) (consM (retM (.d (.int 16))) (retM []))))))
    (seqS (setS 5 (methM "Saying" "text" g_Saying_text (makeM "Saying" g_Saying___init__ (consM (fzV (vM 4)) (retM []))) (retM [])))
    (ifS (orM (bindM (bindM (vM 5) fun x => bindM (callM g__law_text (consM (fzV (vM 4)) (retM []))) (op2 neF x)) boolM) (orM (bindM (bindM (methM "Saying" "form" g_Saying_form (callM g_Saying_read (consM (retM (.d (.cls "Saying"))) (consM (fzV (vM 5)) (retM [])))) (retM [])) fun x => bindM (vM 4) (op2 neF x)) boolM) (bindM (bindM (methM "Saying" "text" g_Saying_text (callM g_Saying_read (consM (retM (.d (.cls "Saying"))) (consM (fzV (vM 5)) (retM [])))) (retM [])) fun x => bindM (vM 5) (op2 neF x)) boolM)))
    (retS (retM (.d (.bl false))))
    nilS)))))))
    (retS (bindM (bindM (methM "Saying" "form" g_Saying_form (callM g_Saying_read (consM (retM (.d (.cls "Saying"))) (consM (retM (.d (.str "(#(#p > p) > ~me-him)"))) (retM [])))) (retM [])) fun x => bindM (retM (.d (.int 2))) (ixF x)) fun x => bindM (tupM (consM (retM (.d (.str "not"))) (consM (tupM (consM (retM (.d (.str "act"))) (consM (retM (.d (.str "me"))) (consM (retM (.d (.str "him"))) (retM []))))) (retM [])))) (op2 eqF x))))
def f_law (g__law_stream g__law_free g__law_atoms g_Saying_text g_Saying___init__ g__law_text g_Saying_form g_Saying_read : Fn) : Fn := fnOf 5 (m_law g__law_stream g__law_free g__law_atoms g_Saying_text g_Saying___init__ g__law_text g_Saying_form g_Saying_read)
/-! ### the names -/
structure Ad where
  a_is_small : Addr
  d_is_small : FuncData
  a_is_word : Addr
  d_is_word : FuncData
  a_is_name : Addr
  d_is_name : FuncData
  a_is_who : Addr
  d_is_who : FuncData
  a_wrong_in : Addr
  d_wrong_in : FuncData
  a_items_of : Addr
  d_items_of : FuncData
  a_built : Addr
  d_built : FuncData
  a_signs_of : Addr
  d_signs_of : FuncData
  a_text_with : Addr
  d_text_with : FuncData
  a_texts_of : Addr
  d_texts_of : FuncData
  a_piece_at : Addr
  d_piece_at : FuncData
  a_pieces_of : Addr
  d_pieces_of : FuncData
  a_leaf : Addr
  d_leaf : FuncData
  a_are_forms : Addr
  d_are_forms : FuncData
  a_prefixed : Addr
  d_prefixed : FuncData
  a_bracketed : Addr
  d_bracketed : FuncData
  a_form_of : Addr
  d_form_of : FuncData
  a_Saying___init__ : Addr
  d_Saying___init__ : FuncData
  a_Saying_read : Addr
  d_Saying_read : FuncData
  p_Saying_read : Addr
  a_Saying_form : Addr
  d_Saying_form : FuncData
  a_Saying_text : Addr
  d_Saying_text : FuncData
  a__law_stream : Addr
  d__law_stream : FuncData
  a__law_draw : Addr
  d__law_draw : FuncData
  a__law_pick : Addr
  d__law_pick : FuncData
  a__law_text : Addr
  d__law_text : FuncData
  a__law_atoms : Addr
  d__law_atoms : FuncData
  a__law_free : Addr
  d__law_free : FuncData
  a_law : Addr
  d_law : FuncData
  x_FORMS_IN : Addr
  x_AHEAD_WORDS : Addr
  x_BETWEEN_WORDS : Addr
  x_AHEAD : Addr
  x_BETWEEN : Addr
  x_MOST_SIGNS : Value
  x_WORDS_IN : Addr
  x_KEPT_WORDS : Addr
  x_LONGEST_WORD : Value
structure Txt (K : PySem.W.Frag) (w : World) (mg : Str → Option Value) (A : Ad) : Prop where
  o_Saying : OwnC K (clA K "Saying")
  m_Saying : mg "Saying" = some (.ref (clA K "Saying"))
  k_Saying : Mk K (clA K "Saying") A.a_Saying___init__
  n_Saying__form : NoAttr K (clA K "Saying") "_form"
  n_Saying__signs : NoAttr K (clA K "Saying") "_signs"
  x_FORMS_IN : mg "FORMS_IN" = some (.ref A.x_FORMS_IN)
  y_FORMS_IN : WDic K w A.x_FORMS_IN k_FORMS_IN
  x_AHEAD_WORDS : mg "AHEAD_WORDS" = some (.ref A.x_AHEAD_WORDS)
  y_AHEAD_WORDS : WDic K w A.x_AHEAD_WORDS k_AHEAD_WORDS
  x_BETWEEN_WORDS : mg "BETWEEN_WORDS" = some (.ref A.x_BETWEEN_WORDS)
  y_BETWEEN_WORDS : WDic K w A.x_BETWEEN_WORDS k_BETWEEN_WORDS
  x_AHEAD : mg "AHEAD" = some (.ref A.x_AHEAD)
  y_AHEAD : WDic K w A.x_AHEAD k_AHEAD
  x_BETWEEN : mg "BETWEEN" = some (.ref A.x_BETWEEN)
  y_BETWEEN : WDic K w A.x_BETWEEN k_BETWEEN
  x_MOST_SIGNS : mg "MOST_SIGNS" = some A.x_MOST_SIGNS ∧ RelV (.int 100000) A.x_MOST_SIGNS
  x_WORDS_IN : mg "WORDS_IN" = some (.ref A.x_WORDS_IN)
  y_WORDS_IN : WDic K w A.x_WORDS_IN k_WORDS_IN
  x_KEPT_WORDS : mg "KEPT_WORDS" = some (.ref A.x_KEPT_WORDS)
  y_KEPT_WORDS : ∀ H, Rp K H k_KEPT_WORDS (.ref A.x_KEPT_WORDS)
  x_LONGEST_WORD : mg "LONGEST_WORD" = some A.x_LONGEST_WORD ∧ RelV (.int 8) A.x_LONGEST_WORD
  F_is_small : Fun K "is_small" "is_small" s_is_small A.a_is_small A.d_is_small
  b_is_small : Binds K A.d_is_small ["sign"] []
  g_is_small : mg "is_small" = some (.ref A.a_is_small)
  F_is_word : Fun K "is_word" "is_word" s_is_word A.a_is_word A.d_is_word
  b_is_word : Binds K A.d_is_word ["thing"] []
  g_is_word : mg "is_word" = some (.ref A.a_is_word)
  F_is_name : Fun K "is_name" "is_name" s_is_name A.a_is_name A.d_is_name
  b_is_name : Binds K A.d_is_name ["thing"] []
  g_is_name : mg "is_name" = some (.ref A.a_is_name)
  F_is_who : Fun K "is_who" "is_who" s_is_who A.a_is_who A.d_is_who
  b_is_who : Binds K A.d_is_who ["thing"] []
  g_is_who : mg "is_who" = some (.ref A.a_is_who)
  F_wrong_in : Fun K "wrong_in" "wrong_in" s_wrong_in A.a_wrong_in A.d_wrong_in
  b_wrong_in : Binds K A.d_wrong_in ["item"] []
  g_wrong_in : mg "wrong_in" = some (.ref A.a_wrong_in)
  F_items_of : Fun K "items_of" "items_of" s_items_of A.a_items_of A.d_items_of
  b_items_of : Binds K A.d_items_of ["form"] []
  g_items_of : mg "items_of" = some (.ref A.a_items_of)
  F_built : Fun K "built" "built" s_built A.a_built A.d_built
  b_built : Binds K A.d_built ["items"] []
  g_built : mg "built" = some (.ref A.a_built)
  F_signs_of : Fun K "signs_of" "signs_of" s_signs_of A.a_signs_of A.d_signs_of
  b_signs_of : Binds K A.d_signs_of ["form"] []
  g_signs_of : mg "signs_of" = some (.ref A.a_signs_of)
  F_text_with : Fun K "text_with" "text_with" s_text_with A.a_text_with A.d_text_with
  b_text_with : Binds K A.d_text_with ["sign", "inner"] []
  g_text_with : mg "text_with" = some (.ref A.a_text_with)
  F_texts_of : Fun K "texts_of" "texts_of" s_texts_of A.a_texts_of A.d_texts_of
  b_texts_of : Binds K A.d_texts_of ["signs"] []
  g_texts_of : mg "texts_of" = some (.ref A.a_texts_of)
  F_piece_at : Fun K "piece_at" "piece_at" s_piece_at A.a_piece_at A.d_piece_at
  b_piece_at : Binds K A.d_piece_at ["text", "at"] []
  g_piece_at : mg "piece_at" = some (.ref A.a_piece_at)
  F_pieces_of : Fun K "pieces_of" "pieces_of" s_pieces_of A.a_pieces_of A.d_pieces_of
  b_pieces_of : Binds K A.d_pieces_of ["text"] []
  g_pieces_of : mg "pieces_of" = some (.ref A.a_pieces_of)
  F_leaf : Fun K "leaf" "leaf" s_leaf A.a_leaf A.d_leaf
  b_leaf : Binds K A.d_leaf ["piece"] []
  g_leaf : mg "leaf" = some (.ref A.a_leaf)
  F_are_forms : Fun K "are_forms" "are_forms" s_are_forms A.a_are_forms A.d_are_forms
  b_are_forms : Binds K A.d_are_forms ["things"] []
  g_are_forms : mg "are_forms" = some (.ref A.a_are_forms)
  F_prefixed : Fun K "prefixed" "prefixed" s_prefixed A.a_prefixed A.d_prefixed
  b_prefixed : Binds K A.d_prefixed ["piece", "behind"] []
  g_prefixed : mg "prefixed" = some (.ref A.a_prefixed)
  F_bracketed : Fun K "bracketed" "bracketed" s_bracketed A.a_bracketed A.d_bracketed
  b_bracketed : Binds K A.d_bracketed ["behind"] []
  g_bracketed : mg "bracketed" = some (.ref A.a_bracketed)
  F_form_of : Fun K "form_of" "form_of" s_form_of A.a_form_of A.d_form_of
  b_form_of : Binds K A.d_form_of ["text"] []
  g_form_of : mg "form_of" = some (.ref A.a_form_of)
  F_Saying___init__ : Fun K "__init__" "Saying.__init__" s_Saying___init__ A.a_Saying___init__ A.d_Saying___init__
  b_Saying___init__ : Binds K A.d_Saying___init__ ["self", "form"] []
  F_Saying_read : Fun K "read" "Saying.read" s_Saying_read A.a_Saying_read A.d_Saying_read
  b_Saying_read : Binds K A.d_Saying_read ["cls", "text"] []
  c_Saying_read : CmOk K (clA K "Saying") "read" A.p_Saying_read A.a_Saying_read (.type "type")
  F_Saying_form : Fun K "form" "Saying.form" s_Saying_form A.a_Saying_form A.d_Saying_form
  b_Saying_form : Binds K A.d_Saying_form ["self"] []
  g_Saying_form : Meth K (clA K "Saying") "form" A.a_Saying_form
  F_Saying_text : Fun K "text" "Saying.text" s_Saying_text A.a_Saying_text A.d_Saying_text
  b_Saying_text : Binds K A.d_Saying_text ["self"] []
  g_Saying_text : Meth K (clA K "Saying") "text" A.a_Saying_text
  F__law_stream : Fun K "_law_stream" "_law_stream" s__law_stream A.a__law_stream A.d__law_stream
  b__law_stream : Binds K A.d__law_stream ["_law_script", "_law_k"] []
  g__law_stream : mg "_law_stream" = some (.ref A.a__law_stream)
  F__law_draw : Fun K "_law_draw" "_law_draw" s__law_draw A.a__law_draw A.d__law_draw
  b__law_draw : Binds K A.d__law_draw ["_law_stream_here", "_law_many"] []
  g__law_draw : mg "_law_draw" = some (.ref A.a__law_draw)
  F__law_pick : Fun K "_law_pick" "_law_pick" s__law_pick A.a__law_pick A.d__law_pick
  b__law_pick : Binds K A.d__law_pick ["_law_stream_here", "_law_things"] []
  g__law_pick : mg "_law_pick" = some (.ref A.a__law_pick)
  F__law_text : Fun K "_law_text" "_law_text" s__law_text A.a__law_text A.d__law_text
  b__law_text : Binds K A.d__law_text ["_law_form"] []
  g__law_text : mg "_law_text" = some (.ref A.a__law_text)
  F__law_atoms : Fun K "_law_atoms" "_law_atoms" s__law_atoms A.a__law_atoms A.d__law_atoms
  b__law_atoms : Binds K A.d__law_atoms [] []
  g__law_atoms : mg "_law_atoms" = some (.ref A.a__law_atoms)
  F__law_free : Fun K "_law_free" "_law_free" s__law_free A.a__law_free A.d__law_free
  b__law_free : Binds K A.d__law_free ["_law_stream_here", "_law_atoms_here", "_law_size"] []
  g__law_free : mg "_law_free" = some (.ref A.a__law_free)
  F_law : Fun K "law" "law" s_law A.a_law A.d_law
  b_law : Binds K A.d_law ["_law_script"] []
  g_law : mg "law" = some (.ref A.a_law)
  w_AHEAD_WORDS : ADic K A.x_AHEAD_WORDS k_AHEAD_WORDS
  w_BETWEEN_WORDS : ADic K A.x_BETWEEN_WORDS k_BETWEEN_WORDS
  w_AHEAD : ADic K A.x_AHEAD k_AHEAD
  w_BETWEEN : ADic K A.x_BETWEEN k_BETWEEN
  z_abs : mg "abs" = none
  z_all : mg "all" = none
  z_int : mg "int" = none
  z_isinstance : mg "isinstance" = none
  z_len : mg "len" = none
  z_list : mg "list" = none
  z_range : mg "range" = none
  z_str : mg "str" = none
  z_tuple : mg "tuple" = none
section
variable {P : Program} {w : World} {K : PySem.W.Frag} {mg : Str → Option Value} {base : Heap} {A : Ad}
theorem ok_is_small (T : Txt K w mg A) : FnOk P w K mg base CX0 1 A.a_is_small A.d_is_small ["sign"] (spM K 1 (f_is_small)) :=
  T.F_is_small.ok sc_is_small (spM_len rfl) fun cdv A outer s H vs Q E hr h => body_ok (n := 1) (nl := 0)
    (bone (sret (xchain op_leS op_leS om_leS om_leS leS_bl xstr (xv 0) xstr))) rfl h
theorem ok_is_word (T : Txt K w mg A) {g_is_small : Fn} (G_is_small : FnOk P w K mg base CX0 1 A.a_is_small A.d_is_small ["sign"] (spM K 1 g_is_small)) : FnOk P w K mg base CX0 2 A.a_is_word A.d_is_word ["thing"] (spM K 1 (f_is_word g_is_small)) :=
  T.F_is_word.ok sc_is_word (spM_len rfl) fun cdv A outer s H vs Q E hr h => body_ok (n := 1) (nl := 1)
    (bcons (sif (tbool (wor (tnot (ttru (xisi T.z_isinstance (xv 0) T.z_str (by decide +kernel)))) (wor1 (tnot (tchain op_le op_le om_le om_le le_bl xint (xlen T.z_len (acons (xv 0) anil)) (xgint T.x_LONGEST_WORD.1 T.x_LONGEST_WORD.2))))))
    (bone (sret xbl))
    bnil)
    (bone (sret (xblt (cr_all rfl) cm_all T.z_all (by decide +kernel) (acons (xcomp (own := [("sign", 1)]) rfl sc_is_word.nd (istr (xv 0)) (blkOk_by (own := [("sign", 1)]) (N := N_is_word) (sc := defScope s_is_word) (by decide +kernel)) (fun _ _ _ _ _ => by exact (gcname 1 (by decide) sc_is_word.nd)) (fun _ _ _ _ _ => pnil) (fun _ _ _ _ _ => by apply re_te; (case h => exact (xcall G_is_small (hr.mono (by decide)) T.g_is_small T.F_is_small.kp T.b_is_small (acons (xfz (xv 1)) anil) (cons_len (nil_len rfl) rfl) pass0)); (case q => (dsimp only [Cx.blk] <;> rfl)))) anil))))) rfl h
theorem ok_is_name (T : Txt K w mg A) {g_is_word : Fn} (G_is_word : FnOk P w K mg base CX0 2 A.a_is_word A.d_is_word ["thing"] (spM K 1 g_is_word)) : FnOk P w K mg base CX0 3 A.a_is_name A.d_is_name ["thing"] (spM K 1 (f_is_name g_is_word)) :=
  T.F_is_name.ok sc_is_name (spM_len rfl) fun cdv A outer s H vs Q E hr h => body_ok (n := 1) (nl := 0)
    (bone (sret (xand (xcall G_is_word (hr.mono (by decide)) T.g_is_word T.F_is_word.kp T.b_is_word (acons (xfz (xv 0)) anil) (cons_len (nil_len rfl) rfl) pass0) (xone (xcmp op_notIn_seq (om_in true) (xv 0) (xgdat T.x_KEPT_WORDS T.y_KEPT_WORDS) (by rfl)))))) rfl h
theorem ok_is_who (T : Txt K w mg A) {g_is_word : Fn} (G_is_word : FnOk P w K mg base CX0 2 A.a_is_word A.d_is_word ["thing"] (spM K 1 g_is_word)) : FnOk P w K mg base CX0 3 A.a_is_who A.d_is_who ["thing"] (spM K 1 (f_is_who g_is_word)) :=
  T.F_is_who.ok sc_is_who (spM_len rfl) fun cdv A outer s H vs Q E hr h => body_ok (n := 1) (nl := 0)
    (bone (sret (xand (xcall G_is_word (hr.mono (by decide)) T.g_is_word T.F_is_word.kp T.b_is_word (acons (xfz (xv 0)) anil) (cons_len (nil_len rfl) rfl) pass0) (xone (xor_ (xcmp op_in_seq (om_in false) (xv 0) (xtup (acons xstr (acons xstr anil))) (by rfl)) (xone (xcmp op_notIn_seq (om_in true) (xv 0) (xgdat T.x_KEPT_WORDS T.y_KEPT_WORDS) (by rfl)))))))) rfl h
theorem ok_wrong_in (T : Txt K w mg A) {g_is_name : Fn} (G_is_name : FnOk P w K mg base CX0 3 A.a_is_name A.d_is_name ["thing"] (spM K 1 g_is_name)) {g_is_who : Fn} (G_is_who : FnOk P w K mg base CX0 3 A.a_is_who A.d_is_who ["thing"] (spM K 1 g_is_who)) : FnOk P w K mg base CX0 4 A.a_wrong_in A.d_wrong_in ["item"] (spM K 1 (f_wrong_in g_is_name g_is_who)) :=
  T.F_wrong_in.ok sc_wrong_in (spM_len rfl) fun cdv A outer s H vs Q E hr h => body_ok (n := 1) (nl := 2)
    (bcons (sif (tbool (wor (tnot (ttru (xisi2 T.z_isinstance (xv 0) T.z_tuple T.z_list (by decide +kernel) (by decide +kernel)))) (wor (tcmp (op_eqD hr.units) om_eq (xlen T.z_len (acons (xv 0) anil)) xint (nomark _)) (wor1 (tnot (ttru (xisi T.z_isinstance (xix (xv 0) xint) T.z_str (by decide +kernel))))))))
    (bone (sret (xtup anil)))
    bnil)
    (bcons (sset 1 (xix (xv 0) xint) sc_wrong_in.nd)
    (bcons (sif (tbool (wor (tninD T.y_FORMS_IN T.x_FORMS_IN (xv 1)) (wor1 (tcmp (op_neD hr.units) om_ne (xlen T.z_len (acons (xv 0) anil)) (xop op_addU om_add (xop op_addU om_add xint (xixD T.y_WORDS_IN T.x_WORDS_IN (xv 1))) (xixD T.y_FORMS_IN T.x_FORMS_IN (xv 1))) (nomark _)))))
    (bone (sret (xtup anil)))
    bnil)
    (bcons (sif (tbool (wand (tcmp (op_eqD hr.units) om_eq (xv 1) xstr (nomark _)) (wand1 (tnot (ttru (xcall G_is_name (hr.mono (by decide)) T.g_is_name T.F_is_name.kp T.b_is_name (acons (xfz (xix (xv 0) xint)) anil) (cons_len (nil_len rfl) rfl) pass0))))))
    (bone (sret (xtup (acons xint anil))))
    bnil)
    (bcons (sif (tcmp (op_eqD hr.units) om_eq (xv 1) xstr (nomark _))
    (bone (sfor PassesOwn.never rfl (iseq (xtup (acons xint (acons xint anil)))) (gname 2 sc_wrong_in.nd)
    (bone (sif (tnot (ttru (xcall G_is_who (hr.mono (by decide)) T.g_is_who T.F_is_who.kp T.b_is_who (acons (xfz (xix (xv 0) (xv 2))) anil) (cons_len (nil_len rfl) rfl) pass0)))
    (bone (sret (xtup (acons (xv 2) anil))))
    bnil))))
    bnil)
    (bone (sret xnon))))))) rfl h
theorem ok_items_of (T : Txt K w mg A) {g_wrong_in : Fn} (G_wrong_in : FnOk P w K mg base CX0 4 A.a_wrong_in A.d_wrong_in ["item"] (spM K 1 g_wrong_in)) : FnOk P w K mg base CX0 5 A.a_items_of A.d_items_of ["form"] (spM K 1 (f_items_of g_wrong_in)) :=
  T.F_items_of.ok sc_items_of (spM_len rfl) fun cdv A outer s H vs Q E hr h => body_ok (n := 1) (nl := 8)
    (bcons (sset 1 (xlst anil) sc_items_of.nd)
    (bcons (sset 2 (xlst anil) sc_items_of.nd)
    (bcons (sset 3 (xlst (acons (xtup (acons (xv 0) (acons (xneg xint) (acons xint anil)))) anil)) sc_items_of.nd)
    (bcons (swhile 100000 PassesOwn.never (ttru (xv 3))
    (bcons (sasg (xlm0 PySem.F.slot_list_pop PySem.F.type_list_pop mt_pop mm_pop (xv 3)) (gtupX rfl (gscons (gname 4 sc_items_of.nd) (gscons (gname 5 sc_items_of.nd) (gscons (gname 6 sc_items_of.nd) gsnil))) rfl))
    (bcons (sexpr (xlm PySem.F.slot_list_append PySem.F.type_list_append mt_append mm_append (xv 2) (acons (xtup (acons (xv 5) (acons (xv 6) anil))) anil)))
    (bcons (sset 7 (xcall G_wrong_in (hr.mono (by decide)) T.g_wrong_in T.F_wrong_in.kp T.b_wrong_in (acons (xfz (xv 4)) anil) (cons_len (nil_len rfl) rfl) pass0) sc_items_of.nd)
    (bcons (sif (tcmp op_notNoU om_notN (xv 7) xnon (nomark _))
    bnever
    bnil)
    (bcons (sif (tcmp (op_eqD hr.units) om_eq (xlen T.z_len (acons (xv 1) anil)) (xgint T.x_MOST_SIGNS.1 T.x_MOST_SIGNS.2) (nomark _))
    bnever
    bnil)
    (bcons (sfor PassesOwn.never rfl (irng3 T.z_range (acons (xixD T.y_FORMS_IN T.x_FORMS_IN (xix (xv 4) xint)) (acons xint (acons (xneg xint) anil)))) (gname 8 sc_items_of.nd)
    (bone (sexpr (xlm PySem.F.slot_list_append PySem.F.type_list_append mt_append mm_append (xv 3) (acons (xtup (acons (xix (xv 4) (xv 8)) (acons (xlen T.z_len (acons (xv 1) anil)) (acons (xv 8) anil)))) anil)))))
    (bone (sexpr (xlm PySem.F.slot_list_append PySem.F.type_list_append mt_append mm_append (xv 1) (acons (xv 4) anil)))))))))))
    (bone (sret (xv 1))))))) rfl h
theorem ok_built (T : Txt K w mg A) : FnOk P w K mg base CX0 1 A.a_built A.d_built ["items"] (spM K 1 (f_built)) :=
  T.F_built.ok sc_built (spM_len rfl) fun cdv A outer s H vs Q E hr h => body_ok (n := 1) (nl := 5)
    (bcons (sset 1 (xlst anil) sc_built.nd)
    (bcons (sset 2 (xlst anil) sc_built.nd)
    (bcons (sfor PassesOwn.never rfl (iseq (xrev (xv 0))) (gname 3 sc_built.nd)
    (bcons (sset 4 (xixD T.y_FORMS_IN T.x_FORMS_IN (xix (xv 3) xint)) sc_built.nd)
    (bcons (sif (tcmp (op_eqD hr.units) om_eq (xv 4) xint (nomark _))
    (bone (sset 5 (xbty call_tupleU cm_tuple T.z_tuple (by decide +kernel) (acons (xv 3) anil)) sc_built.nd))
    (bone (sif (tcmp (op_eqD hr.units) om_eq (xv 4) xint (nomark _))
    (bone (sset 5 (xtup (acons (xix (xv 3) xint) (acons (xlm0 PySem.F.slot_list_pop PySem.F.type_list_pop mt_pop mm_pop (xv 2)) anil))) sc_built.nd))
    (bone (sset 5 (xtup (acons (xix (xv 3) xint) (acons (xlm0 PySem.F.slot_list_pop PySem.F.type_list_pop mt_pop mm_pop (xv 2)) (acons (xlm0 PySem.F.slot_list_pop PySem.F.type_list_pop mt_pop mm_pop (xv 2)) anil)))) sc_built.nd)))))
    (bcons (sexpr (xlm PySem.F.slot_list_append PySem.F.type_list_append mt_append mm_append (xv 2) (acons (xv 5) anil)))
    (bone (sexpr (xlm PySem.F.slot_list_append PySem.F.type_list_append mt_append mm_append (xv 1) (acons (xv 5) anil))))))))
    (bone (sret (xrev (xv 1))))))) rfl h
theorem ok_signs_of (T : Txt K w mg A) {g_built : Fn} (G_built : FnOk P w K mg base CX0 1 A.a_built A.d_built ["items"] (spM K 1 g_built)) {g_items_of : Fn} (G_items_of : FnOk P w K mg base CX0 5 A.a_items_of A.d_items_of ["form"] (spM K 1 g_items_of)) : FnOk P w K mg base CX0 6 A.a_signs_of A.d_signs_of ["form"] (spM K 1 (f_signs_of g_built g_items_of)) :=
  T.F_signs_of.ok sc_signs_of (spM_len rfl) fun cdv A outer s H vs Q E hr h => body_ok (n := 1) (nl := 0)
    (bone (sret (xcall G_built (hr.mono (by decide)) T.g_built T.F_built.kp T.b_built (acons (xfz (xcall G_items_of (hr.mono (by decide)) T.g_items_of T.F_items_of.kp T.b_items_of (acons (xfz (xv 0)) anil) (cons_len (nil_len rfl) rfl) pass0)) anil) (cons_len (nil_len rfl) rfl) pass0))) rfl h
theorem ok_text_with (T : Txt K w mg A) : FnOk P w K mg base CX0 1 A.a_text_with A.d_text_with ["sign", "inner"] (spM K 2 (f_text_with)) :=
  T.F_text_with.ok sc_text_with (spM_len rfl) fun cdv A outer s H vs Q E hr h => body_ok (n := 2) (nl := 1)
    (bcons (sset 2 (xix (xv 0) xint) sc_text_with.nd)
    (bcons (sif (tcmp (op_eqD hr.units) om_eq (xv 2) xstr (nomark _))
    (bone (sret (xix (xv 0) xint)))
    bnil)
    (bcons (sif (tcmp (op_eqD hr.units) om_eq (xv 2) xstr (nomark _))
    (bone (sret (xjs (.cons (xfmt (xix (xv 0) xint)) (.cons xstr (.cons (xfmt (xix (xv 0) xint)) .nil))))))
    bnil)
    (bcons (sif (tinA T.y_AHEAD T.w_AHEAD T.x_AHEAD (xv 2))
    (bone (sret (xop op_addU om_add (xixD T.y_AHEAD T.x_AHEAD (xv 2)) (xix (xv 1) xint))))
    bnil)
    (bcons (sif (tinA T.y_BETWEEN T.w_BETWEEN T.x_BETWEEN (xv 2))
    (bone (sret (xjs (.cons xstr (.cons (xfmt (xix (xv 1) xint)) (.cons (xfmt (xixD T.y_BETWEEN T.x_BETWEEN (xv 2))) (.cons (xfmt (xix (xv 1) xint)) (.cons xstr .nil))))))))
    bnil)
    (bone (sret (xv 2)))))))) rfl h
theorem ok_texts_of (T : Txt K w mg A) {g_text_with : Fn} (G_text_with : FnOk P w K mg base CX0 1 A.a_text_with A.d_text_with ["sign", "inner"] (spM K 2 g_text_with)) : FnOk P w K mg base CX0 2 A.a_texts_of A.d_texts_of ["signs"] (spM K 1 (f_texts_of g_text_with)) :=
  T.F_texts_of.ok sc_texts_of (spM_len rfl) fun cdv A outer s H vs Q E hr h => body_ok (n := 1) (nl := 6)
    (bcons (sset 1 (xlst anil) sc_texts_of.nd)
    (bcons (sset 2 (xlst anil) sc_texts_of.nd)
    (bcons (sfor PassesOwn.never rfl (iseq (xrev (xv 0))) (gname 3 sc_texts_of.nd)
    (bcons (ssetC (own := [("_", 6)]) 4 rfl sc_texts_of.nd rfl rfl (sw_true rfl rfl rfl (by decide +kernel)) (irng1 T.z_range (acons (xixD T.y_FORMS_IN T.x_FORMS_IN (xix (xv 3) xint)) anil)) (blkOk_by (own := [("_", 6)]) (N := N_texts_of) (sc := defScope s_texts_of) (by decide +kernel)) (fun _ _ _ _ _ => by exact (gcname 6 (by decide) sc_texts_of.nd)) (fun _ _ _ _ _ => pnil) (fun _ _ _ _ _ => by apply re_te; (case h => exact (xlm0 PySem.F.slot_list_pop PySem.F.type_list_pop mt_pop mm_pop (xv 2))); (case q => (dsimp only [Cx.blk] <;> rfl))))
    (bcons (sset 5 (xcall G_text_with (hr.mono (by decide)) T.g_text_with T.F_text_with.kp T.b_text_with (acons (xfz (xv 3)) (acons (xfz (xv 4)) anil)) (cons_len (cons_len (nil_len rfl) rfl) rfl) pass0) sc_texts_of.nd)
    (bcons (sexpr (xlm PySem.F.slot_list_append PySem.F.type_list_append mt_append mm_append (xv 2) (acons (xv 5) anil)))
    (bone (sexpr (xlm PySem.F.slot_list_append PySem.F.type_list_append mt_append mm_append (xv 1) (acons (xv 5) anil))))))))
    (bone (sret (xrev (xv 1))))))) rfl h
theorem ok_piece_at (T : Txt K w mg A) {g_is_small : Fn} (G_is_small : FnOk P w K mg base CX0 1 A.a_is_small A.d_is_small ["sign"] (spM K 1 g_is_small)) : FnOk P w K mg base CX0 2 A.a_piece_at A.d_piece_at ["text", "at"] (spM K 2 (f_piece_at g_is_small)) :=
  T.F_piece_at.ok sc_piece_at (spM_len rfl) fun cdv A outer s H vs Q E hr h => body_ok (n := 2) (nl := 1)
    (bcons (sif (tcmp op_in_sign om_sgn (xix (xv 0) (xv 1)) xstr (by rfl))
    (bone (sret (xix (xv 0) (xv 1))))
    bnil)
    (bcons (sif (tinA T.y_BETWEEN_WORDS T.w_BETWEEN_WORDS T.x_BETWEEN_WORDS (xsl (xv 0) (osome (xv 1)) (osome (xop op_addU om_add (xv 1) xint))))
    (bone (sret (xsl (xv 0) (osome (xv 1)) (osome (xop op_addU om_add (xv 1) xint)))))
    bnil)
    (bcons (sset 2 (xv 1) sc_piece_at.nd)
    (bcons (swhile 100000 PassesOwn.never (tbool (wand (tcmp op_lt om_lt (xv 2) (xlen T.z_len (acons (xv 0) anil)) (nomark _)) (wand1 (tbool (wor (ttru (xcall G_is_small (hr.mono (by decide)) T.g_is_small T.F_is_small.kp T.b_is_small (acons (xfz (xix (xv 0) (xv 2))) anil) (cons_len (nil_len rfl) rfl) pass0)) (wor1 (tcmp (op_eqD hr.units) om_eq (xix (xv 0) (xv 2)) xstr (nomark _))))))))
    (bone (saug 2 ip_add xint sc_piece_at.nd)))
    (bcons (sif (tcmp (op_eqD hr.units) om_eq (xv 2) (xv 1) (nomark _))
    bnever
    bnil)
    (bone (sret (xsl (xv 0) (osome (xv 1)) (osome (xv 2)))))))))) rfl h
theorem ok_pieces_of (T : Txt K w mg A) {g_piece_at : Fn} (G_piece_at : FnOk P w K mg base CX0 2 A.a_piece_at A.d_piece_at ["text", "at"] (spM K 2 g_piece_at)) : FnOk P w K mg base CX0 3 A.a_pieces_of A.d_pieces_of ["text"] (spM K 1 (f_pieces_of g_piece_at)) :=
  T.F_pieces_of.ok sc_pieces_of (spM_len rfl) fun cdv A outer s H vs Q E hr h => body_ok (n := 1) (nl := 3)
    (bcons (sset 1 (xlst anil) sc_pieces_of.nd)
    (bcons (sset 2 xint sc_pieces_of.nd)
    (bcons (swhile 100000 PassesOwn.never (tcmp op_lt om_lt (xv 2) (xlen T.z_len (acons (xv 0) anil)) (nomark _))
    (bcons (sset 3 (xcall G_piece_at (hr.mono (by decide)) T.g_piece_at T.F_piece_at.kp T.b_piece_at (acons (xfz (xv 0)) (acons (xfz (xv 2)) anil)) (cons_len (cons_len (nil_len rfl) rfl) rfl) pass0) sc_pieces_of.nd)
    (bcons (sexpr (xlm PySem.F.slot_list_append PySem.F.type_list_append mt_append mm_append (xv 1) (acons (xv 3) anil)))
    (bone (saug 2 ip_add (xlen T.z_len (acons (xv 3) anil)) sc_pieces_of.nd)))))
    (bone (sret (xv 1)))))) rfl h
theorem ok_leaf (T : Txt K w mg A) {g_is_name : Fn} (G_is_name : FnOk P w K mg base CX0 3 A.a_is_name A.d_is_name ["thing"] (spM K 1 g_is_name)) {g_is_who : Fn} (G_is_who : FnOk P w K mg base CX0 3 A.a_is_who A.d_is_who ["thing"] (spM K 1 g_is_who)) : FnOk P w K mg base CX0 4 A.a_leaf A.d_leaf ["piece"] (spM K 1 (f_leaf g_is_name g_is_who)) :=
  T.F_leaf.ok sc_leaf (spM_len rfl) fun cdv A outer s H vs Q E hr h => body_ok (n := 1) (nl := 1)
    (bcons (sif (tcmp op_in_seq (om_in false) (xv 0) (xtup (acons xstr (acons xstr anil))) (by rfl))
    (bone (sret (xtup (acons (xv 0) anil))))
    bnil)
    (bcons (sif (ttru (xcall G_is_name (hr.mono (by decide)) T.g_is_name T.F_is_name.kp T.b_is_name (acons (xfz (xv 0)) anil) (cons_len (nil_len rfl) rfl) pass0))
    (bone (sret (xtup (acons xstr (acons (xv 0) anil)))))
    bnil)
    (bcons (sset 1 (xspl (xv 0) (acons xstr anil)) sc_leaf.nd)
    (bcons (sif (tbool (wand (tcmp (op_eqD hr.units) om_eq (xlen T.z_len (acons (xv 1) anil)) xint (nomark _)) (wand (ttru (xcall G_is_who (hr.mono (by decide)) T.g_is_who T.F_is_who.kp T.b_is_who (acons (xfz (xix (xv 1) xint)) anil) (cons_len (nil_len rfl) rfl) pass0)) (wand1 (ttru (xcall G_is_who (hr.mono (by decide)) T.g_is_who T.F_is_who.kp T.b_is_who (acons (xfz (xix (xv 1) xint)) anil) (cons_len (nil_len rfl) rfl) pass0))))))
    (bone (sret (xtup (acons xstr (acons (xix (xv 1) xint) (acons (xix (xv 1) xint) anil))))))
    bnil)
    bnever)))) rfl h
theorem ok_are_forms (T : Txt K w mg A) : FnOk P w K mg base CX0 1 A.a_are_forms A.d_are_forms ["things"] (spM K 1 (f_are_forms)) :=
  T.F_are_forms.ok sc_are_forms (spM_len rfl) fun cdv A outer s H vs Q E hr h => body_ok (n := 1) (nl := 1)
    (bone (sret (xcomp (own := [("thing", 1)]) rfl sc_are_forms.nd (iseq (xv 0)) (blkOk_by (own := [("thing", 1)]) (N := N_are_forms) (sc := defScope s_are_forms) (by decide +kernel)) (fun _ _ _ _ _ => by exact (gcname 1 (by decide) sc_are_forms.nd)) (fun _ _ _ _ _ => pnil) (fun _ _ _ _ _ => by apply re_te; (case h => exact (xisi T.z_isinstance (xv 1) T.z_tuple (by decide +kernel))); (case q => (dsimp only [Cx.blk] <;> rfl)))))) rfl h
theorem ok_prefixed (T : Txt K w mg A) {g_are_forms : Fn} (G_are_forms : FnOk P w K mg base CX0 1 A.a_are_forms A.d_are_forms ["things"] (spM K 1 g_are_forms)) : FnOk P w K mg base CX0 2 A.a_prefixed A.d_prefixed ["piece", "behind"] (spM K 2 (f_prefixed g_are_forms)) :=
  T.F_prefixed.ok sc_prefixed (spM_len rfl) fun cdv A outer s H vs Q E hr h => body_ok (n := 2) (nl := 0)
    (bcons (sif (tcmp (op_neD hr.units) om_ne (xcall G_are_forms (hr.mono (by decide)) T.g_are_forms T.F_are_forms.kp T.b_are_forms (acons (xfz (xv 1)) anil) (cons_len (nil_len rfl) rfl) pass0) (xlst (acons xbl anil)) (nomark _))
    bnever
    bnil)
    (bone (sret (xtup (acons (xixD T.y_AHEAD_WORDS T.x_AHEAD_WORDS (xv 0)) (acons (xix (xv 1) xint) anil)))))) rfl h
theorem ok_bracketed (T : Txt K w mg A) {g_are_forms : Fn} (G_are_forms : FnOk P w K mg base CX0 1 A.a_are_forms A.d_are_forms ["things"] (spM K 1 g_are_forms)) : FnOk P w K mg base CX0 2 A.a_bracketed A.d_bracketed ["behind"] (spM K 1 (f_bracketed g_are_forms)) :=
  T.F_bracketed.ok sc_bracketed (spM_len rfl) fun cdv A outer s H vs Q E hr h => body_ok (n := 1) (nl := 0)
    (bcons (sif (tcmp (op_neD hr.units) om_ne (xcall G_are_forms (hr.mono (by decide)) T.g_are_forms T.F_are_forms.kp T.b_are_forms (acons (xfz (xv 0)) anil) (cons_len (nil_len rfl) rfl) pass0) (xlst (acons xbl (acons xbl (acons xbl (acons xbl anil))))) (nomark _))
    bnever
    bnil)
    (bcons (sif (tbool (wor (tcmp (op_neD hr.units) om_ne (xix (xv 0) xint) xstr (nomark _)) (wor1 (tninA T.y_BETWEEN_WORDS T.w_BETWEEN_WORDS T.x_BETWEEN_WORDS (xix (xv 0) xint)))))
    bnever
    bnil)
    (bone (sret (xtup (acons (xixD T.y_BETWEEN_WORDS T.x_BETWEEN_WORDS (xix (xv 0) xint)) (acons (xix (xv 0) xint) (acons (xix (xv 0) xint) anil)))))))) rfl h
theorem ok_form_of (T : Txt K w mg A) {g_pieces_of : Fn} (G_pieces_of : FnOk P w K mg base CX0 3 A.a_pieces_of A.d_pieces_of ["text"] (spM K 1 g_pieces_of)) {g_prefixed : Fn} (G_prefixed : FnOk P w K mg base CX0 2 A.a_prefixed A.d_prefixed ["piece", "behind"] (spM K 2 g_prefixed)) {g_bracketed : Fn} (G_bracketed : FnOk P w K mg base CX0 2 A.a_bracketed A.d_bracketed ["behind"] (spM K 1 g_bracketed)) {g_leaf : Fn} (G_leaf : FnOk P w K mg base CX0 4 A.a_leaf A.d_leaf ["piece"] (spM K 1 g_leaf)) {g_are_forms : Fn} (G_are_forms : FnOk P w K mg base CX0 1 A.a_are_forms A.d_are_forms ["things"] (spM K 1 g_are_forms)) : FnOk P w K mg base CX0 5 A.a_form_of A.d_form_of ["text"] (spM K 1 (f_form_of g_pieces_of g_prefixed g_bracketed g_leaf g_are_forms)) :=
  T.F_form_of.ok sc_form_of (spM_len rfl) fun cdv A outer s H vs Q E hr h => body_ok (n := 1) (nl := 2)
    (bcons (sset 1 (xlst anil) sc_form_of.nd)
    (bcons (sfor PassesOwn.never rfl (iseq (xrev (xcall G_pieces_of (hr.mono (by decide)) T.g_pieces_of T.F_pieces_of.kp T.b_pieces_of (acons (xfz (xv 0)) anil) (cons_len (nil_len rfl) rfl) pass0))) (gname 2 sc_form_of.nd)
    (bone (sif (tinA T.y_AHEAD_WORDS T.w_AHEAD_WORDS T.x_AHEAD_WORDS (xv 2))
    (bone (ssetE (m := 1) (xlst (acons (xcall G_prefixed (hr.mono (by decide)) T.g_prefixed T.F_prefixed.kp T.b_prefixed (acons (xfz (xv 2)) (acons (xfz (xsl (xv 1) (osome (xneg xint)) onone)) anil)) (cons_len (cons_len (nil_len rfl) rfl) rfl) pass0) anil)) (xv 1)))
    (bone (sif (tcmp (op_eqD hr.units) om_eq (xv 2) xstr (nomark _))
    (bone (ssetE (m := 4) (xlst (acons (xcall G_bracketed (hr.mono (by decide)) T.g_bracketed T.F_bracketed.kp T.b_bracketed (acons (xfz (xsl (xv 1) (osome (xneg xint)) onone)) anil) (cons_len (nil_len rfl) rfl) pass0) anil)) (xv 1)))
    (bone (sif (tbool (wor (tcmp (op_eqD hr.units) om_eq (xv 2) xstr (nomark _)) (wor1 (tinA T.y_BETWEEN_WORDS T.w_BETWEEN_WORDS T.x_BETWEEN_WORDS (xv 2)))))
    (bone (sexpr (xlm PySem.F.slot_list_append PySem.F.type_list_append mt_append mm_append (xv 1) (acons (xv 2) anil))))
    (bone (sexpr (xlm PySem.F.slot_list_append PySem.F.type_list_append mt_append mm_append (xv 1) (acons (xcall G_leaf (hr.mono (by decide)) T.g_leaf T.F_leaf.kp T.b_leaf (acons (xfz (xv 2)) anil) (cons_len (nil_len rfl) rfl) pass0) anil)))))))))))
    (bcons (sif (tcmp (op_neD hr.units) om_ne (xcall G_are_forms (hr.mono (by decide)) T.g_are_forms T.F_are_forms.kp T.b_are_forms (acons (xfz (xv 1)) anil) (cons_len (nil_len rfl) rfl) pass0) (xlst (acons xbl anil)) (nomark _))
    bnever
    bnil)
    (bone (sret (xix (xv 1) xint)))))) rfl h
theorem ok_Saying___init__ (T : Txt K w mg A) {g_signs_of : Fn} (G_signs_of : FnOk P w K mg base CX0 6 A.a_signs_of A.d_signs_of ["form"] (spM K 1 g_signs_of)) : FnOk P w K mg base CX0 7 A.a_Saying___init__ A.d_Saying___init__ ["self", "form"] (spM K 2 (f_Saying___init__ g_signs_of)) :=
  T.F_Saying___init__.ok sc_Saying___init__ (spM_len rfl) fun cdv A outer s H vs Q E hr h => body_ok (n := 2) (nl := 0)
    (bcons (ssetF T.o_Saying T.n_Saying__signs (xcall G_signs_of (hr.mono (by decide)) T.g_signs_of T.F_signs_of.kp T.b_signs_of (acons (xfz (xv 1)) anil) (cons_len (nil_len rfl) rfl) pass0) (xv 0))
    (bone (ssetF T.o_Saying T.n_Saying__form (xix (xfld T.o_Saying T.n_Saying__signs (xv 0)) xint) (xv 0)))) rfl h
theorem ok_Saying_read (T : Txt K w mg A) {g_Saying___init__ : Fn} (G_Saying___init__ : FnOk P w K mg base CX0 7 A.a_Saying___init__ A.d_Saying___init__ ["self", "form"] (spM K 2 g_Saying___init__)) {g_form_of : Fn} (G_form_of : FnOk P w K mg base CX0 5 A.a_form_of A.d_form_of ["text"] (spM K 1 g_form_of)) : FnOk P w K mg base CX0 9 A.a_Saying_read A.d_Saying_read ["cls", "text"] (spM K 2 (f_Saying_read g_Saying___init__ g_form_of)) :=
  T.F_Saying_read.ok sc_Saying_read (spM_len rfl) fun cdv A outer s H vs Q E hr h => body_ok (n := 2) (nl := 0)
    (bone (sret (xmkV (j := 0) T.k_Saying G_Saying___init__ (hr.mono (by decide)) T.b_Saying___init__ (acons (xfz (xcall G_form_of (hr.mono (by decide)) T.g_form_of T.F_form_of.kp T.b_form_of (acons (xfz (xv 1)) anil) (cons_len (nil_len rfl) rfl) pass0)) anil) (cons_len (nil_len rfl) rfl) pass0))) rfl h
theorem ok_Saying_form (T : Txt K w mg A) : FnOk P w K mg base CX0 1 A.a_Saying_form A.d_Saying_form ["self"] (spM K 1 (f_Saying_form)) :=
  T.F_Saying_form.ok sc_Saying_form (spM_len rfl) fun cdv A outer s H vs Q E hr h => body_ok (n := 1) (nl := 0)
    (bone (sret (xfld T.o_Saying T.n_Saying__form (xv 0)))) rfl h
theorem ok_Saying_text (T : Txt K w mg A) {g_texts_of : Fn} (G_texts_of : FnOk P w K mg base CX0 2 A.a_texts_of A.d_texts_of ["signs"] (spM K 1 g_texts_of)) : FnOk P w K mg base CX0 3 A.a_Saying_text A.d_Saying_text ["self"] (spM K 1 (f_Saying_text g_texts_of)) :=
  T.F_Saying_text.ok sc_Saying_text (spM_len rfl) fun cdv A outer s H vs Q E hr h => body_ok (n := 1) (nl := 0)
    (bone (sret (xix (xcall G_texts_of (hr.mono (by decide)) T.g_texts_of T.F_texts_of.kp T.b_texts_of (acons (xfz (xfld T.o_Saying T.n_Saying__signs (xv 0))) anil) (cons_len (nil_len rfl) rfl) pass0) xint))) rfl h
theorem ok__law_stream (T : Txt K w mg A) : FnOk P w K mg base CX0 1 A.a__law_stream A.d__law_stream ["_law_script", "_law_k"] (spM K 2 (f__law_stream)) :=
  T.F__law_stream.ok sc__law_stream (spM_len rfl) fun cdv A outer s H vs Q E hr h => body_ok (n := 2) (nl := 1)
    (bcons (sset 2 (xif (tcmp op_lt om_lt (xv 1) (xlen T.z_len (acons (xv 0) anil)) (nomark _)) (xblt call_absU cm_abs T.z_abs (by decide +kernel) (acons (xix (xv 0) (xv 1)) anil)) xint) sc__law_stream.nd)
    (bone (sret (xlst (acons (xif (tcmp op_ge om_ge (xv 2) (xop op_pow om_pow xint xint) (nomark _)) (xv 2) xint) (acons (xop op_addU om_add (xop op_modN om_mod (xbty call_intU cm_int T.z_int (by decide +kernel) (acons (xv 2) anil)) xint) (xop op_mulU om_mul xint (xv 1))) (acons xint anil))))))) rfl h
theorem ok__law_draw (T : Txt K w mg A) : FnOk P w K mg base CX0 1 A.a__law_draw A.d__law_draw ["_law_stream_here", "_law_many"] (spM K 2 (f__law_draw)) :=
  T.F__law_draw.ok sc__law_draw (spM_len rfl) fun cdv A outer s H vs Q E hr h => body_ok (n := 2) (nl := 2)
    (bcons (sif (tcmp op_gt om_gt (xix (xv 0) xint) xint (nomark _))
    (bcons (sset 2 (xop op_modN om_mod (xbty call_intU cm_int T.z_int (by decide +kernel) (acons (xix (xv 0) xint) anil)) (xv 1)) sc__law_draw.nd)
    (bcons (ssetI (xop op_fdivN om_fdiv (xix (xv 0) xint) (xv 1)) (xv 0) xint (pg_sub (xv 0).pe xint.pe set_list))
    (bone (sret (xv 2)))))
    bnil)
    (bcons (ssetI (xop op_addU om_add (xix (xv 0) xint) xint) (xv 0) xint (pg_sub (xv 0).pe xint.pe set_list))
    (bcons (sset 3 (xop op_modN om_mod (xop op_pow om_pow (xbty call_intU cm_int T.z_int (by decide +kernel) (acons (xop op_addU om_add (xop op_addU om_add (xix (xv 0) xint) (xop op_mulU om_mul xint (xix (xv 0) xint))) xint) anil)) xint) xint) sc__law_draw.nd)
    (bone (sret (xop op_modN om_mod (xop op_fdivN om_fdiv (xop op_modN om_mod (xbty call_intU cm_int T.z_int (by decide +kernel) (acons (xop op_mulU om_mul (xop op_addU om_add (xv 3) (xix (xv 0) xint)) xint) anil)) xint) xint) (xv 1))))))) rfl h
theorem ok__law_pick (T : Txt K w mg A) {g__law_draw : Fn} (G__law_draw : FnOk P w K mg base CX0 1 A.a__law_draw A.d__law_draw ["_law_stream_here", "_law_many"] (spM K 2 g__law_draw)) : FnOk P w K mg base CX0 2 A.a__law_pick A.d__law_pick ["_law_stream_here", "_law_things"] (spM K 2 (f__law_pick g__law_draw)) :=
  T.F__law_pick.ok sc__law_pick (spM_len rfl) fun cdv A outer s H vs Q E hr h => body_ok (n := 2) (nl := 0)
    (bone (sret (xix (xv 1) (xcall G__law_draw (hr.mono (by decide)) T.g__law_draw T.F__law_draw.kp T.b__law_draw (acons (xv 0) (acons (xfz (xlen T.z_len (acons (xv 1) anil))) anil)) (cons_len (cons_len (nil_len rfl) rfl) rfl) pass0)))) rfl h
theorem ok__law_text (T : Txt K w mg A) : ∀ n : Nat, FnOk P w K mg base CX0 (0 + n) A.a__law_text A.d__law_text ["_law_form"] (spM K 1 (f__law_text n))
  | 0 => ⟨spM_len rfl, fun A outer s H args us vs Q E hr h0 hb hv h => by obtain ⟨_, _, _, _, _, _, _, _, _, e, _⟩ := h; cases e⟩
  | n + 1 => have G__law_text := ok__law_text T n
    T.F__law_text.ok sc__law_text (spM_len rfl) fun cdv A outer s H vs Q E hr h => body_ok (n := 1) (nl := 2)
    (bcons (sset 1 (xix (xv 0) xint) sc__law_text.nd)
    (bcons (sif (tcmp (op_eqD hr.units) om_eq (xv 1) xstr (nomark _))
    (bone (sret (xix (xv 0) xint)))
    bnil)
    (bcons (sif (tcmp (op_eqD hr.units) om_eq (xv 1) xstr (nomark _))
    (bone (sret (xop op_addU om_add (xop op_addU om_add (xix (xv 0) xint) xstr) (xix (xv 0) xint))))
    bnil)
    (bcons (sif (tcmp op_in_seq (om_in false) (xv 1) (xtup (acons xstr (acons xstr anil))) (by rfl))
    (bone (sret (xop op_addU om_add (xif (tcmp (op_eqD hr.units) om_eq (xv 1) xstr (nomark _)) xstr xstr) (xcall G__law_text hr T.g__law_text T.F__law_text.kp T.b__law_text (acons (xfz (xix (xv 0) xint)) anil) (cons_len (nil_len rfl) rfl) pass0))))
    bnil)
    (bcons (sif (tcmp op_in_seq (om_in false) (xv 1) (xtup (acons xstr (acons xstr (acons xstr anil)))) (by rfl))
    (bcons (sset 2 (xdg hr (xdsp (.cons xstr xstr (.cons xstr xstr (.cons xstr xstr .nil)))) (xv 1)) sc__law_text.nd)
    (bone (sret (xop op_addU om_add (xop op_addU om_add (xop op_addU om_add (xop op_addU om_add xstr (xcall G__law_text hr T.g__law_text T.F__law_text.kp T.b__law_text (acons (xfz (xix (xv 0) xint)) anil) (cons_len (nil_len rfl) rfl) pass0)) (xv 2)) (xcall G__law_text hr T.g__law_text T.F__law_text.kp T.b__law_text (acons (xfz (xix (xv 0) xint)) anil) (cons_len (nil_len rfl) rfl) pass0)) xstr))))
    bnil)
    (bone (sret (xv 1)))))))) rfl h
theorem ok__law_atoms (T : Txt K w mg A) : FnOk P w K mg base CX0 1 A.a__law_atoms A.d__law_atoms [] (spM K 0 (f__law_atoms)) :=
  T.F__law_atoms.ok sc__law_atoms (spM_len rfl) fun cdv A outer s H vs Q E hr h => body_ok (n := 0) (nl := 1)
    (bcons (sset 0 (xlst (acons (xtup (acons xstr (acons xstr anil))) (acons (xtup (acons xstr (acons xstr anil))) (acons (xtup (acons xstr (acons xstr anil))) (acons (xtup (acons xstr (acons xstr (acons xstr anil)))) anil))))) sc__law_atoms.nd)
    (bone (sret (xop op_addU om_add (xv 0) (xlst (acons (xtup (acons xstr (acons xstr (acons xstr anil)))) (acons (xtup (acons xstr (acons xstr (acons xstr anil)))) anil))))))) rfl h
theorem ok__law_free (T : Txt K w mg A) {g__law_draw : Fn} (G__law_draw : FnOk P w K mg base CX0 1 A.a__law_draw A.d__law_draw ["_law_stream_here", "_law_many"] (spM K 2 g__law_draw)) {g__law_pick : Fn} (G__law_pick : FnOk P w K mg base CX0 2 A.a__law_pick A.d__law_pick ["_law_stream_here", "_law_things"] (spM K 2 g__law_pick)) : ∀ n : Nat, FnOk P w K mg base CX0 (2 + n) A.a__law_free A.d__law_free ["_law_stream_here", "_law_atoms_here", "_law_size"] (spM K 3 (f__law_free g__law_draw g__law_pick n))
  | 0 => ⟨spM_len rfl, fun A outer s H args us vs Q E hr h0 hb hv h => by obtain ⟨_, _, _, _, _, _, _, _, _, e, _⟩ := h; cases e⟩
  | n + 1 => have G__law_free := ok__law_free T G__law_draw G__law_pick n
    T.F__law_free.ok sc__law_free (spM_len rfl) fun cdv A outer s H vs Q E hr h => body_ok (n := 3) (nl := 2)
    (bcons (sif (tbool (wor (tcmp op_lt om_lt (xv 2) xint (nomark _)) (wor1 (tcmp (op_eqD hr.units) om_eq (xcall G__law_draw (hr.monoR (by decide)) T.g__law_draw T.F__law_draw.kp T.b__law_draw (acons (xv 0) (acons xint anil)) (cons_len (cons_len (nil_len rfl) rfl) rfl) pass0) xint (nomark _)))))
    (bone (sret (xcall G__law_pick (hr.monoR (by decide)) T.g__law_pick T.F__law_pick.kp T.b__law_pick (acons (xv 0) (acons (xfz (xif (tcmp (op_eqD hr.units) om_eq (xcall G__law_draw (hr.monoR (by decide)) T.g__law_draw T.F__law_draw.kp T.b__law_draw (acons (xv 0) (acons xint anil)) (cons_len (cons_len (nil_len rfl) rfl) rfl) pass0) xint (nomark _)) (xop op_addU om_add (xv 1) (xlst (acons (xtup (acons xstr anil)) (acons (xtup (acons xstr anil)) anil)))) (xv 1))) anil)) (cons_len (cons_len (nil_len rfl) rfl) rfl) pass0)))
    bnil)
    (bcons (sset 3 (xcall G__law_pick (hr.monoR (by decide)) T.g__law_pick T.F__law_pick.kp T.b__law_pick (acons (xv 0) (acons (xfz (xlst (acons xstr (acons xstr (acons xstr (acons xstr (acons xstr (acons xstr anil)))))))) anil)) (cons_len (cons_len (nil_len rfl) rfl) rfl) pass0) sc__law_free.nd)
    (bcons (sif (tbool (wor (tcmp op_in_seq (om_in false) (xv 3) (xtup (acons xstr (acons xstr anil))) (by rfl)) (wor1 (tcmp op_lt om_lt (xv 2) xint (nomark _)))))
    (bcons (sset 3 (xif (tcmp op_in_seq (om_in false) (xv 3) (xtup (acons xstr (acons xstr anil))) (by rfl)) (xv 3) xstr) sc__law_free.nd)
    (bone (sret (xtup (acons (xv 3) (acons (xcall G__law_free hr T.g__law_free T.F__law_free.kp T.b__law_free (acons (xv 0) (acons (xfz (xv 1)) (acons (xfz (xop op_sub om_sub (xv 2) xint)) anil))) (cons_len (cons_len (cons_len (nil_len rfl) rfl) rfl) rfl) pass0) anil))))))
    bnil)
    (bcons (sset 4 (xop op_addU om_add xint (xcall G__law_draw (hr.monoR (by decide)) T.g__law_draw T.F__law_draw.kp T.b__law_draw (acons (xv 0) (acons (xfz (xop op_sub om_sub (xv 2) xint)) anil)) (cons_len (cons_len (nil_len rfl) rfl) rfl) pass0)) sc__law_free.nd)
    (bone (sret (xtup (acons (xv 3) (acons (xcall G__law_free hr T.g__law_free T.F__law_free.kp T.b__law_free (acons (xv 0) (acons (xfz (xv 1)) (acons (xfz (xv 4)) anil))) (cons_len (cons_len (cons_len (nil_len rfl) rfl) rfl) rfl) pass0) (acons (xcall G__law_free hr T.g__law_free T.F__law_free.kp T.b__law_free (acons (xv 0) (acons (xfz (xv 1)) (acons (xfz (xop op_sub om_sub (xop op_sub om_sub (xv 2) xint) (xv 4))) anil))) (cons_len (cons_len (cons_len (nil_len rfl) rfl) rfl) rfl) pass0) anil)))))))))) rfl h
theorem ok_law (T : Txt K w mg A) {g__law_stream : Fn} (G__law_stream : FnOk P w K mg base CX0 1 A.a__law_stream A.d__law_stream ["_law_script", "_law_k"] (spM K 2 g__law_stream)) {g__law_free : Fn} (G__law_free : FnOk P w K mg base CX0 22 A.a__law_free A.d__law_free ["_law_stream_here", "_law_atoms_here", "_law_size"] (spM K 3 g__law_free)) {g__law_atoms : Fn} (G__law_atoms : FnOk P w K mg base CX0 1 A.a__law_atoms A.d__law_atoms [] (spM K 0 g__law_atoms)) {g_Saying_text : Fn} (G_Saying_text : FnOk P w K mg base CX0 3 A.a_Saying_text A.d_Saying_text ["self"] (spM K 1 g_Saying_text)) {g_Saying___init__ : Fn} (G_Saying___init__ : FnOk P w K mg base CX0 7 A.a_Saying___init__ A.d_Saying___init__ ["self", "form"] (spM K 2 g_Saying___init__)) {g__law_text : Fn} (G__law_text : FnOk P w K mg base CX0 20 A.a__law_text A.d__law_text ["_law_form"] (spM K 1 g__law_text)) {g_Saying_form : Fn} (G_Saying_form : FnOk P w K mg base CX0 1 A.a_Saying_form A.d_Saying_form ["self"] (spM K 1 g_Saying_form)) {g_Saying_read : Fn} (G_Saying_read : FnOk P w K mg base CX0 9 A.a_Saying_read A.d_Saying_read ["cls", "text"] (spM K 2 g_Saying_read)) : FnOk P w K mg base CX0 23 A.a_law A.d_law ["_law_script"] (spM K 1 (f_law g__law_stream g__law_free g__law_atoms g_Saying_text g_Saying___init__ g__law_text g_Saying_form g_Saying_read)) :=
  T.F_law.ok sc_law (spM_len rfl) fun cdv A outer s H vs Q E hr h => body_ok (n := 1) (nl := 5)
    (bcons (sfor PassesOwn.never rfl (irng1 T.z_range (acons xint anil)) (gname 1 sc_law.nd)
    (bcons (sset 2 (xcall G__law_stream (hr.mono (by decide)) T.g__law_stream T.F__law_stream.kp T.b__law_stream (acons (xfz (xv 0)) (acons (xfz (xv 1)) anil)) (cons_len (cons_len (nil_len rfl) rfl) rfl) pass0) sc_law.nd)
    (bcons (sset 3 (xlst (acons (xtup (acons xstr (acons xstr anil))) (acons (xtup (acons xstr (acons xstr (acons xstr anil)))) (acons (xtup (acons xstr (acons xstr (acons xstr anil)))) anil)))) sc_law.nd)
    (bcons (sexpr (xlm PySem.F.slot_list_extend PySem.F.type_list_extend mt_extend mm_extend (xv 3) (acons (xlst (acons (xtup (acons xstr (acons xstr (acons xstr anil)))) (acons (xtup (acons xstr (acons xstr anil))) anil))) anil)))
    (bcons (sset 4 (xcall G__law_free (hr.mono (by decide)) T.g__law_free T.F__law_free.kp T.b__law_free (acons (xv 2) (acons (xfz (xop op_addU om_add (xcall0 G__law_atoms (hr.mono (by decide)) T.g__law_atoms T.F__law_atoms.kp T.b__law_atoms pass0) (xv 3))) (acons xint anil))) (cons_len (cons_len (cons_len (nil_len rfl) rfl) rfl) rfl) pass0) sc_law.nd)
    (bcons (sset 5 (xmeth0 T.o_Saying T.g_Saying_text G_Saying_text (hr.mono (by decide)) T.b_Saying_text (xmake T.k_Saying G_Saying___init__ (hr.mono (by decide)) T.m_Saying T.b_Saying___init__ (acons (xfz (xv 4)) anil) (cons_len (nil_len rfl) rfl) pass0) pass0) sc_law.nd)
    (bone (sif (tbool (wor (tcmp (op_neD hr.units) om_ne (xv 5) (xcall G__law_text (hr.mono (by decide)) T.g__law_text T.F__law_text.kp T.b__law_text (acons (xfz (xv 4)) anil) (cons_len (nil_len rfl) rfl) pass0) (nomark _)) (wor (tcmp (op_neD hr.units) om_ne (xmeth0 T.o_Saying T.g_Saying_form G_Saying_form (hr.mono (by decide)) T.b_Saying_form (xcm T.c_Saying_read G_Saying_read (hr.mono (by decide)) T.b_Saying_read T.m_Saying (acons (xfz (xv 5)) anil) (cons_len (nil_len rfl) rfl) pass0) pass0) (xv 4) (nomark _)) (wor1 (tcmp (op_neD hr.units) om_ne (xmeth0 T.o_Saying T.g_Saying_text G_Saying_text (hr.mono (by decide)) T.b_Saying_text (xcm T.c_Saying_read G_Saying_read (hr.mono (by decide)) T.b_Saying_read T.m_Saying (acons (xfz (xv 5)) anil) (cons_len (nil_len rfl) rfl) pass0) pass0) (xv 5) (nomark _))))))
    (bone (sret xbl))
    bnil))))))))
    (bone (sret (xcmp (op_eqD hr.units) om_eq (xix (xmeth0 T.o_Saying T.g_Saying_form G_Saying_form (hr.mono (by decide)) T.b_Saying_form (xcm T.c_Saying_read G_Saying_read (hr.mono (by decide)) T.b_Saying_read T.m_Saying (acons xstr anil) (cons_len (nil_len rfl) rfl) pass0) pass0) xint) (xtup (acons xstr (acons (xtup (acons xstr (acons xstr (acons xstr anil)))) anil))) (nomark _))))) rfl h
end
local macro_rules | `(tactic| walk_at "nu") => `(tactic| first | assumption | omega | ((try simp only [List.length_map, List.length_append, List.length_cons, List.length_nil, List.length_replicate, List.length_range] at *); omega))
local macro_rules | `(tactic| walk_at "yes") => `(tactic| first | rfl | assumption | exact decide_eq_true (by walk_at "nu") | exact decide_eq_false (by walk_at "nu") | exact beq_iff_eq.mpr (by walk_at "nu") | exact beq_eq_false_iff_ne.mpr (by walk_at "nu") | omega | decide | (simp; done) | (simp only [Bool.not_eq_eq_eq_not, Bool.not_true, Bool.not_false, decide_eq_true_eq, decide_eq_false_iff_not]; omega))
local macro_rules | `(tactic| walk_at "go") => `(tactic| first
  | ((with_reducible refine (?_ : lenD _ = some _)); with_reducible assumption)
  | with_reducible exact zv_ret | with_reducible exact zv_newL | with_reducible exact zv_bool | with_reducible exact zv_seeD | with_reducible exact zv_fzD | with_reducible exact zv_fzA0 | with_reducible exact zk_nil | with_reducible exact zv_bl
  | with_reducible exact zk_rt | with_reducible exact zk_bk | with_reducible exact zk_ct | with_reducible exact zw_lenL | with_reducible exact zw_lenQ | with_reducible exact zw_lenT | with_reducible exact zw_abs | with_reducible exact zw_intI | with_reducible exact zw_intB | with_reducible exact zq_int | with_reducible exact zq_bl | with_reducible exact zq_blsT | with_reducible exact zq_blsL
  | ((with_reducible apply zv_var); rfl)
  | ((with_reducible apply zv_seeC) <;> walk_at "go")
  | ((with_reducible apply zv_fzC) <;> walk_at "go")
  | ((with_reducible apply zv_bind) <;> walk_at "go")
  | ((with_reducible apply zv_cons) <;> walk_at "go")
  | ((with_reducible apply zv_fzV) <;> walk_at "go")
  | ((with_reducible apply zv_op2) <;> walk_at "go")
  | ((with_reducible apply zv_ix) <;> walk_at "go")
  | ((with_reducible apply zv_fn1) <;> walk_at "go")
  | ((with_reducible apply zv_fn2) <;> walk_at "go")
  | ((with_reducible apply zv_see) <;> walk_at "go")
  | ((with_reducible apply zv_tru) <;> walk_at "go")
  | ((with_reducible apply zv_fzA1) <;> walk_at "go")
  | ((with_reducible apply zv_tup) <;> walk_at "go")
  | ((with_reducible apply zv_lst) <;> walk_at "go")
  | ((with_reducible apply zv_not) <;> walk_at "go")
  | ((with_reducible apply zv_notV) <;> walk_at "go")
  | ((with_reducible apply zv_neg) <;> walk_at "go")
  | ((with_reducible apply zv_part) <;> walk_at "go")
  | ((with_reducible apply zv_call) <;> walk_at "go")
  | ((with_reducible apply zv_and) <;> walk_at "go")
  | ((with_reducible apply zv_or) <;> walk_at "go")
  | ((with_reducible apply zv_andV) <;> walk_at "go")
  | ((with_reducible apply zv_orV) <;> walk_at "go")
  | ((with_reducible apply zv_if) <;> walk_at "go")
  | ((with_reducible apply zk_seq) <;> walk_at "go")
  | ((with_reducible apply zk_nx) <;> walk_at "go")
  | ((with_reducible apply zk_set) <;> walk_at "go")
  | ((with_reducible apply zk_drop) <;> walk_at "go")
  | ((with_reducible apply zk_ret) <;> walk_at "go")
  | ((with_reducible apply zk_if) <;> walk_at "go")
  | ((with_reducible apply zk_setI) <;> walk_at "go")
  | ((with_reducible apply zw_eq) <;> walk_at "go")
  | ((with_reducible apply zw_ne) <;> walk_at "go")
  | ((with_reducible apply zw_mod) <;> walk_at "go")
  | ((with_reducible apply zw_fdiv) <;> walk_at "go")
  | ((with_reducible apply zw_pow) <;> walk_at "go")
  | ((with_reducible apply zv_rng1) <;> walk_at "go")
  | ((with_reducible apply zv_rng2) <;> walk_at "go")
  | ((with_reducible apply zk_for) <;> walk_at "go")
  | ((with_reducible apply zv_tuple) <;> walk_at "go")
  | ((with_reducible apply zv_list) <;> walk_at "go")
  | ((with_reducible apply zv_items) <;> walk_at "go")
  | ((with_reducible apply zk_aug) <;> walk_at "go")
  | ((with_reducible apply zk_set2) <;> walk_at "go")
  | ((with_reducible apply zv_own1) <;> walk_at "go")
  | ((with_reducible apply zv_own2) <;> walk_at "go")
  | ((with_reducible apply zv_lenO) <;> walk_at "go")
  | ((with_reducible apply zv_ixD) <;> walk_at "go")
  | ((with_reducible apply zv_inD) <;> walk_at "go")
  | ((with_reducible apply zk_asg) <;> walk_at "go")
  | ((with_reducible apply zv_str) <;> walk_at "go")
  | ((with_reducible apply zv_chain) <;> walk_at "go")
  | ((with_reducible apply zv_rev) <;> walk_at "go")
  | ((with_reducible apply zv_fld) <;> walk_at "go")
  | ((with_reducible apply zk_setF) <;> walk_at "go")
  | ((with_reducible apply zv_make) <;> walk_at "go")
  | ((with_reducible apply zv_meth) <;> walk_at "go")
  | with_reducible exact zg_tup3
  | with_reducible exact zg_name
  | with_reducible exact fl_nil
  | ((with_reducible apply fl_cons) <;> walk_at "go")
  | ((with_reducible apply zq_str) <;> first | assumption | decide +kernel)
  | ((with_reducible refine (?_ : look2 _ _ = some _)); rfl)
  | ((with_reducible refine (?_ : isi2F _ _ _ = some _)); rfl)
  | ((with_reducible refine (?_ : isiF _ _ = some _)); rfl)
  | focus ((with_reducible apply zv_addI); (focus (walk_at "go"; done)); (focus (walk_at "go"; done)))
  | focus ((with_reducible apply zv_mulI); (focus (walk_at "go"; done)); (focus (walk_at "go"; done)); all_goals walk_at "go")
  | focus ((with_reducible apply zv_addT); (focus (walk_at "go"; done)); (focus (walk_at "go"; done)); all_goals walk_at "go")
  | focus ((with_reducible apply zv_mulT); (focus (walk_at "go"; done)); (focus (walk_at "go"; done)); all_goals walk_at "go")
  | focus ((with_reducible apply zpk_T); (focus (walk_at "yes")); walk_at "go")
  | focus ((with_reducible apply zpk_F); (focus (walk_at "yes")); walk_at "go")
  | focus ((with_reducible apply zps_T); (focus (walk_at "yes")); walk_at "go")
  | focus ((with_reducible apply zps_F); (focus (walk_at "yes")); walk_at "go")
  | with_reducible exact zw_int rfl
  | ((with_reducible refine (?_ : _ ≤ (_ : Nat))); first | (simp only [List.length_cons, List.length_nil]; decide) | (simp only [List.length_map, List.length_cons, List.length_nil, List.length_append]; omega) | (simp; omega))
  | ((with_reducible refine (?_ : _ = some (Ce.lst _))); first | assumption | exact get_L rfl | exact get_new _ _ | exact get_mid _ _ _ | exact get_set (by assumption) | exact get_set (get_set (by assumption)) | rfl)
  | ((with_reducible refine (?_ : _ = some (some _))); rfl)
  | ((with_reducible refine (?_ : ixD _ _ = some _)); walk_at "it")
  | ((with_reducible apply zv_slT) <;> walk_at "go"; done)
  | ((with_reducible apply zv_slL) <;> walk_at "go"; done)
  | ((with_reducible refine (?_ : ixN _ _ = some _)); rfl)
  | ((with_reducible refine (?_ : itemsD _ = some _)); first | assumption | rfl)
  | ((with_reducible refine (?_ : truD _ = some _)); rfl)
  | ((with_reducible refine (?_ : (_ : Int) ≠ _)); first | assumption | omega | decide)
  | ((with_reducible refine (?_ : CPow _ _)); walk_at "pw")
  | ((with_reducible refine (?_ : CDivN _ _)); first | assumption | (refine ⟨?_, ?_⟩ <;> first | decide | omega))
  | ((with_reducible refine (?_ : CMul _ _)); walk_at "mu")
  | ((with_reducible refine (?_ : _ ∧ _)); first | omega | (refine ⟨?_, ?_, ?_, ?_⟩ <;> first | omega | (simp; done)))
  | ((with_reducible refine (?_ : _ = some _)); with_reducible assumption)
  | ((with_reducible refine (?_ : _ = some _)); assumption)
  | skip)
local macro_rules | `(tactic| walk_at "pw") => `(tactic| first | (refine ⟨by decide, by decide, ?_⟩; first | decide | omega) | skip)
local macro_rules | `(tactic| walk_at "mu") => `(tactic| first | (refine .inl ⟨?_, ?_⟩ <;> first | decide | omega) | (refine .inr ⟨?_, ?_⟩ <;> first | decide | omega) | skip)
local macro_rules | `(tactic| walk_at "it") => `(tactic| first | rfl | assumption | skip)
/-! ### words -/
theorem small_ok {c : Nat} (h1 : 97 ≤ c) (h2 : c ≤ 122) (ce : List Ce) : f_is_small [.d (.str ⟨#[c]⟩)] ce = some (.d (.bl true), ce) := by
  have e1 : leSF (.str "a") (.str ⟨#[c]⟩) = some (.bl true) := by
    have : ¬ ([c] < ("a" : Str).cps.toList) := by
      rw [show ("a" : Str).cps.toList = [97] from by decide +kernel]
      intro h
      rcases List.cons_lt_cons_iff.mp h with h | ⟨_, h⟩
      · omega
      · exact absurd h (List.lt_irrefl [])
    show some (Dt.bl (!decide ([c] < ("a" : Str).cps.toList))) = _
    rw [decide_eq_false this]
    rfl
  have e2 : leSF (.str ⟨#[c]⟩) (.str "z") = some (.bl true) := by
    have : ¬ (("z" : Str).cps.toList < [c]) := by
      rw [show ("z" : Str).cps.toList = [122] from by decide +kernel]
      intro h
      rcases List.cons_lt_cons_iff.mp h with h | ⟨_, h⟩
      · omega
      · exact absurd h (List.lt_irrefl [])
    show some (Dt.bl (!decide (("z" : Str).cps.toList < [c]))) = _
    rw [decide_eq_false this]
    rfl
  unfold f_is_small
  apply cut_ev (m_is_small ⟨[some (.d (.str ⟨#[c]⟩))], ce⟩)
  case h =>
    unfold m_is_small
    walk_at "go"
  case k =>
    intro ev
    exact zf_rt ev (trim_d (List.take_length))
def Small (s : Str) : Prop := 1 ≤ s.length ∧ s.length ≤ 8 ∧ ∀ c ∈ s.cps.toList, 97 ≤ c ∧ c ≤ 122
theorem all_true (n : Nat) : allD (.lst ((List.range n).map fun _ => .bl true)) = some (.bl true) := by
  have h : ∀ n : Nat, blsD (List.replicate n (Dt.bl true)) = some (List.replicate n true) := by
    intro n
    induction n with
    | zero => rfl
    | succ n ih =>
      rw [List.replicate_succ, List.replicate_succ]
      show (blsD (List.replicate n (Dt.bl true))).map _ = _
      rw [ih]
      rfl
  have e : ((List.range n).map fun _ => Dt.bl true) = List.replicate n (.bl true) := by
    simp [List.map_const']
  rw [e]
  show (blsD _).map _ = _
  rw [h]
  simp
theorem word_ok {s : Str} (h : Small s) (ce : List Ce) : f_is_word f_is_small [.d (.str s)] ce = some (.d (.bl true), ce) := by
  obtain ⟨h1, h2, h3⟩ := h
  have hz : s.length ≤ sizeLine := Nat.le_trans h2 (by decide)
  have hl : (chrs s).length = s.length := by simp [chrs, Str.length]
  obtain ⟨gs, hc⟩ := comp_gen (v := 1) (mi := strM (vM 0)) (t := retM true) (m := callM f_is_small (consM (fzV (vM 1)) (retM []))) (E := ⟨[some (.d (.str s)), none], ce⟩) (sl := [some (.d (.str s)), none]) (ce := ce) (ds := chrs s) (fun _ => true) (fun _ => .bl true)
    (zv_str (zv_var rfl)) (by show 1 < 2; decide) (by omega) (fun i d c gs hd => by
      have hd2 : (s.cps.toList.map fun c => Dt.str ⟨#[c]⟩)[i]? = some d := hd
      rw [List.getElem?_map] at hd2
      cases q : s.cps.toList[i]? with
      | none =>
        rw [q] at hd2
        cases hd2
      | some x =>
        rw [q] at hd2
        cases hd2
        obtain ⟨k1, k2⟩ := h3 x (List.mem_of_getElem? q)
        exact ⟨gs, rfl, fun _ => ⟨gs, zv_call (zv_cons (zv_fzV (zv_var rfl) zv_fzD) zv_ret) (small_ok k1 k2 _)⟩⟩)
  have hla : lenD (.str s) = some (.int (s.length : Int)) := by
    show (if s.length ≤ sizeLine then _ else _) = _
    rw [if_pos hz]
  rw [givenD_all] at hc
  unfold f_is_word
  apply cut_ev (m_is_word f_is_small ⟨[some (.d (.str s)), none], ce⟩)
  case h =>
    unfold m_is_word
    apply zk_seq (Q := .nx ⟨[some (.d (.str s)), none], ce⟩)
    · walk_at "go"
    · exact zk_nx (zk_ret (zv_bind (zv_cons hc zv_ret) (zv_fn1 (zv_seeC (get_mid _ _ _)) (all_true _))))
  case k =>
    intro ev
    refine zf_rt ev (trim_d ?_)
    show (ce ++ [_] ++ gs).take ce.length = ce
    rw [List.append_assoc, List.take_left]
/-! ### forms -/
inductive Un | not | box
inductive Bi | and | or | iff
def Un.s : Un → Str
  | .not => "not"
  | .box => "box"
def Bi.s : Bi → Str
  | .and => "and"
  | .or => "or"
  | .iff => "if"
/-- a form as it is given: true where a list stands for a tuple -/
inductive Fm
  | yes (b : Bool) | no (b : Bool) | letter (b : Bool) (s : Str) | act (b : Bool) (s t : Str)
  | un (b : Bool) (u : Un) (f : Fm) | bi (b : Bool) (o : Bi) (f g : Fm)
def sqD (b : Bool) (xs : List Dt) : Dt := match b with
  | true => .lst xs
  | false => .tup xs
def gd : Fm → Dt
  | .yes b => sqD b [.str "yes"]
  | .no b => sqD b [.str "no"]
  | .letter b s => sqD b [.str "letter", .str s]
  | .act b s t => sqD b [.str "act", .str s, .str t]
  | .un b u f => sqD b [.str u.s, gd f]
  | .bi b o f g => sqD b [.str o.s, gd f, gd g]
def dt : Fm → Dt
  | .yes _ => .tup [.str "yes"]
  | .no _ => .tup [.str "no"]
  | .letter _ s => .tup [.str "letter", .str s]
  | .act _ s t => .tup [.str "act", .str s, .str t]
  | .un _ u f => .tup [.str u.s, dt f]
  | .bi _ o f g => .tup [.str o.s, dt f, dt g]
def pre : Fm → List Fm
  | .un b u f => .un b u f :: pre f
  | .bi b o f g => .bi b o f g :: (pre f ++ pre g)
  | f => [f]
abbrev NAME : Fn := f_is_name (f_is_word f_is_small)
abbrev WHO : Fn := f_is_who (f_is_word f_is_small)
def NameOk (s : Str) : Prop := ∀ ce : List Ce, NAME [.d (.str s)] ce = some (.d (.bl true), ce)
def WhoOk (s : Str) : Prop := ∀ ce : List Ce, WHO [.d (.str s)] ce = some (.d (.bl true), ce)
def Top : Fm → Prop
  | .letter _ s => NameOk s
  | .act _ s t => WhoOk s ∧ WhoOk t
  | _ => True
def Wf : Fm → Prop
  | .letter _ s => NameOk s ∧ PyData.strOk s = true
  | .act _ s t => (WhoOk s ∧ WhoOk t) ∧ PyData.strOk s = true ∧ PyData.strOk t = true
  | .un _ _ f => Wf f
  | .bi _ _ f g => Wf f ∧ Wf g
  | _ => True
theorem name_ok {s : Str} (h : Small s) (hk : inF true (.str s) k_KEPT_WORDS = some (.bl true)) : NameOk s := fun ce => by
  have hw := word_ok h ce
  unfold NAME f_is_name
  apply cut_ev (m_is_name (f_is_word f_is_small) ⟨[some (.d (.str s))], ce⟩)
  case h =>
    unfold m_is_name
    walk_at "go"
  case k =>
    intro ev
    exact zf_rt ev (trim_d (List.take_length))
theorem who_ok {s : Str} (h : Small s) (hk : inF false (.str s) (.tup [.str "me", .str "him"]) = some (.bl true) ∨ (inF false (.str s) (.tup [.str "me", .str "him"]) = some (.bl false) ∧ inF true (.str s) k_KEPT_WORDS = some (.bl true))) : WhoOk s := fun ce => by
  have hw := word_ok h ce
  unfold WHO f_is_who
  rcases hk with hk | ⟨hk, hk2⟩
  · apply cut_ev (m_is_who (f_is_word f_is_small) ⟨[some (.d (.str s))], ce⟩)
    case h =>
      unfold m_is_who
      walk_at "go"
    case k =>
      intro ev
      exact zf_rt ev (trim_d (List.take_length))
  · apply cut_ev (m_is_who (f_is_word f_is_small) ⟨[some (.d (.str s))], ce⟩)
    case h =>
      unfold m_is_who
      walk_at "go"
    case k =>
      intro ev
      exact zf_rt ev (trim_d (List.take_length))
abbrev WRONG : Fn := f_wrong_in NAME WHO
theorem wr_of {x : Dt} {ce : List Ce} {sl2 : List (Option Vl)} (e : m_wrong_in NAME WHO ⟨[some (.d x), none, none], ce⟩ = some (.rt (.d .non) ⟨sl2, ce⟩)) : WRONG [.d x] ce = some (.d .non, ce) := by
  exact zf_rt e (trim_d (List.take_length))
local macro_rules | `(tactic| walk_at "wr") => `(tactic| (apply wr_of; (case e => (simp only [gd, sqD, Un.s, Bi.s]; unfold m_wrong_in; walk_at "go"))))
theorem wrong_ok : ∀ {f : Fm}, Top f → ∀ ce : List Ce, WRONG [.d (gd f)] ce = some (.d .non, ce) := fun {f} hf ce => by
  cases f with
  | yes b => cases b <;> walk_at "wr"
  | no b => cases b <;> walk_at "wr"
  | letter b s =>
    have hs : ∀ ce, NAME [.d (.str s)] ce = some (.d (.bl true), ce) := hf
    have hs := hs ce
    cases b <;> walk_at "wr"
  | un b u f => cases b <;> cases u <;> walk_at "wr"
  | bi b o f g => cases b <;> cases o <;> walk_at "wr"
  | act b s t =>
    obtain ⟨hs, ht⟩ := (hf : WhoOk s ∧ WhoOk t)
    have hs := hs ce
    have ht := ht ce
    cases b <;> walk_at "wr"
def tr (p : Fm × Int × Int) : Dt := .tup [gd p.1, .int p.2.1, .int p.2.2]
def todo (stk : List (Fm × Int × Int)) : List Dt := (stk.reverse).map tr
theorem todo_cons (p : Fm × Int × Int) (stk : List (Fm × Int × Int)) : todo (p :: stk) = todo stk ++ [tr p] := by
  unfold todo
  rw [List.reverse_cons, List.map_append]
  rfl
/-- what is put on the stack of a form -/
def kids (n : Int) : Fm → List (Fm × Int × Int)
  | .un _ _ f => [(f, n, 1)]
  | .bi _ _ f g => [(f, n, 1), (g, n, 2)]
  | _ => []
def itS (n : Nat) (x0 j4 j5 j6 j7 j8 : Option Vl) : List (Option Vl) := [x0, some (.c (n + 0)), some (.c (n + 1)), some (.c (n + 2)), j4, j5, j6, j7, j8]
def itT : M Bool := Hk.bindM (vM 3) truM
def itB : En → Option Rs :=
    (seqS (asgS (bmM "list" (vM 3) (retM []) popF) (tupG [(nameG 4), (nameG 5), (nameG 6)]))
    (seqS (dropS (bmM "list" (vM 2) (consM (tupM (consM (vM 5) (consM (vM 6) (retM [])))) (retM [])) appF))
    (seqS (setS 7 (callM WRONG (consM (fzV (vM 4)) (retM []))))
    (seqS (ifS (Hk.bindM (Hk.bindM (vM 7) fun x => Hk.bindM (retM (.d .non)) (op2 (isNF true) x)) boolM)
    (fun _ => none)
    nilS)
    (seqS (ifS (Hk.bindM (Hk.bindM (Hk.bindM (consM (vM 1) (retM [])) (fn1 lenD)) fun x => Hk.bindM (retM (.d (.int 100000))) (op2 eqF x)) boolM)
    (fun _ => none)
    nilS)
    (seqS (forS (rng3M (consM (ixDM k_FORMS_IN (Hk.bindM (vM 4) fun x => Hk.bindM (retM (.d (.int 0))) (ixF x))) (consM (retM (.d (.int 0))) (consM (negM (retM (.d (.int 1)))) (retM []))))) (nameG 8)
    (dropS (bmM "list" (vM 3) (consM (tupM (consM (Hk.bindM (vM 4) fun x => Hk.bindM (vM 8) (ixF x)) (consM (Hk.bindM (consM (vM 1) (retM [])) (fn1 lenD)) (consM (vM 8) (retM []))))) (retM [])) appF)))
    (dropS (bmM "list" (vM 1) (consM (vM 4) (retM [])) appF))))))))
theorem itB_is : m_items_of WRONG = (seqS (setS 1 (lstM (retM [])))
    (seqS (setS 2 (lstM (retM [])))
    (seqS (setS 3 (lstM (consM (tupM (consM (vM 0) (consM (negM (retM (.d (.int 1)))) (consM (retM (.d (.int 0))) (retM []))))) (retM []))))
    (seqS (whileS itT itB 100000)
    (retS (vM 1)))))) := rfl
theorem rngD0 : rngD 0 0 = [] := rfl
theorem rngD1 : rngD 1 1 = [.int 1] := rfl
theorem rngD2 : rngD 2 2 = [.int 2, .int 1] := rfl
def itE (ce : List Ce) (sl : List (Option Vl)) (acc steps td : List Dt) : En := ⟨sl, ce ++ [.lst acc, .lst steps, .lst td]⟩
def nsub : Fm → Nat
  | .un _ _ _ => 1
  | .bi _ _ _ _ => 2
  | _ => 0
def itF : En → Option Rs := (forS (rng3M (consM (ixDM k_FORMS_IN (Hk.bindM (vM 4) fun x => Hk.bindM (retM (.d (.int 0))) (ixF x))) (consM (retM (.d (.int 0))) (consM (negM (retM (.d (.int 1)))) (retM []))))) (nameG 8)
    (dropS (bmM "list" (vM 3) (consM (tupM (consM (Hk.bindM (vM 4) fun x => Hk.bindM (vM 8) (ixF x)) (consM (Hk.bindM (consM (vM 1) (retM [])) (fn1 lenD)) (consM (vM 8) (retM []))))) (retM [])) appF)))
theorem rng_f {f : Fm} {sl : List (Option Vl)} {ce : List Ce} (h4 : sl[4]? = some (some (.d (gd f)))) : rng3M (consM (ixDM k_FORMS_IN (Hk.bindM (vM 4) fun x => Hk.bindM (retM (.d (.int 0))) (ixF x))) (consM (retM (.d (.int 0))) (consM (negM (retM (.d (.int 1)))) (retM [])))) ⟨sl, ce⟩ = some (rngD (nsub f) (nsub f), ⟨sl, ce⟩) := by
  have hx : ∃ w : Str, ixD (gd f) (.int 0) = some (.str w) ∧ look2 w k_FORMS_IN = some (.int (nsub f)) := by
    cases f with
    | yes b => cases b <;> exact ⟨_, rfl, rfl⟩
    | no b => cases b <;> exact ⟨_, rfl, rfl⟩
    | letter b s => cases b <;> exact ⟨_, rfl, rfl⟩
    | act b s t => cases b <;> exact ⟨_, rfl, rfl⟩
    | un b u f => cases b <;> cases u <;> exact ⟨_, rfl, rfl⟩
    | bi b o f g => cases b <;> cases o <;> exact ⟨_, rfl, rfl⟩
  obtain ⟨w, h1, h2⟩ := hx
  have hn : (0 : Int) ≤ (nsub f : Int) ∧ (nsub f : Int) < 2 ^ 62 := by
    cases f <;> simp [nsub]
  have e : rngD (nsub f : Int) (nsub f) = rngD (nsub f : Int) ((nsub f : Int).toNat) := by rw [Int.toNat_natCast]
  rw [e]
  exact zv_rng3 (zv_cons (zv_ixD (zv_bind (zv_var h4) (zv_bind zv_ret (zv_ix zv_seeD zv_seeD h1))) h2) (zv_cons zv_ret (zv_cons (zv_neg zv_ret) zv_ret))) hn
theorem kid_ok {i : Nat} {d : Dt} {x : Dt} {sl : List (Option Vl)} {ce : List Ce} {acc steps td : List Dt} (h1 : sl[1]? = some (some (.c (ce.length + 0)))) (h3 : sl[3]? = some (some (.c (ce.length + 2)))) (h4 : sl[4]? = some (some (.d x))) (h8 : sl[8]? = some (some (.d (.int i)))) (hx : ixD x (.int i) = some d) (hl : td.length < 100000) :
    dropS (bmM "list" (vM 3) (consM (tupM (consM (Hk.bindM (vM 4) fun x => Hk.bindM (vM 8) (ixF x)) (consM (Hk.bindM (consM (vM 1) (retM [])) (fn1 lenD)) (consM (vM 8) (retM []))))) (retM [])) appF) (itE ce sl acc steps td) = some (.nx (itE ce sl acc steps (td ++ [.tup [d, .int acc.length, .int i]]))) :=
  zk_drop (zv_appL (i := 2) (zv_var h3) (zv_cons (zv_tup (zv_cons (zv_bind (zv_var h4) (zv_bind (zv_var h8) (zv_ix zv_seeD zv_seeD hx))) (zv_cons (zv_bind (zv_cons (zv_var h1) zv_ret) (zv_fn1 (zv_seeC (get_L rfl)) zw_lenL)) (zv_cons (zv_var h8) zv_ret))) (by show 3 ≤ 100000; decide) (zv_fzA1 zv_fzD (zv_fzA1 zv_fzD (zv_fzA1 zv_fzD zv_fzA0)))) zv_ret) rfl hl rfl)
theorem kids_ok (f : Fm) (x0 j5 j6 j7 j8 : Option Vl) (ce : List Ce) (acc steps td : List Dt) (h3 : td.length < 99990) :
    ∃ j8', itF (itE ce (itS ce.length x0 (some (.d (gd f))) j5 j6 j7 j8) acc steps td) = some (.nx (itE ce (itS ce.length x0 (some (.d (gd f))) j5 j6 j7 j8') acc steps (td ++ todo (kids acc.length f)))) := by
  have hr := rng_f (f := f) (sl := itS ce.length x0 (some (.d (gd f))) j5 j6 j7 j8) (ce := ce ++ [.lst acc, .lst steps, .lst td]) rfl
  have h0 : ∀ {R : Rs}, forL (nameG 8) (dropS (bmM "list" (vM 3) (consM (tupM (consM (Hk.bindM (vM 4) fun x => Hk.bindM (vM 8) (ixF x)) (consM (Hk.bindM (consM (vM 1) (retM [])) (fn1 lenD)) (consM (vM 8) (retM []))))) (retM [])) appF)) (rngD (nsub f) (nsub f)) (itE ce (itS ce.length x0 (some (.d (gd f))) j5 j6 j7 j8) acc steps td) = some R → itF (itE ce (itS ce.length x0 (some (.d (gd f))) j5 j6 j7 j8) acc steps td) = some R := fun h => zk_for hr h
  cases f with
  | un b u f =>
    refine ⟨some (.d (.int 1)), h0 ?_⟩
    refine fl_cons (d := .int ((1 : Nat) : Int)) (ds := []) zg_name (kid_ok (i := 1) (d := gd f) (x := gd (.un b u f)) rfl rfl rfl rfl (by cases b <;> rfl) (by omega)) ?_
    rfl
  | bi b o f g =>
    refine ⟨some (.d (.int 1)), h0 ?_⟩
    refine fl_cons (d := .int ((2 : Nat) : Int)) (ds := [.int ((1 : Nat) : Int)]) zg_name (kid_ok (i := 2) (d := gd g) (x := gd (.bi b o f g)) rfl rfl rfl rfl (by cases b <;> rfl) (by omega)) ?_
    refine fl_cons (d := .int ((1 : Nat) : Int)) (ds := []) zg_name (kid_ok (i := 1) (d := gd f) (x := gd (.bi b o f g)) rfl rfl rfl rfl (by cases b <;> rfl) (by rw [List.length_append]; show td.length + 1 < 100000; omega)) ?_
    rw [List.append_assoc]
    rfl
  | yes b => exact ⟨j8, h0 (by rw [show todo (kids acc.length (.yes b)) = [] from rfl, List.append_nil]; rfl)⟩
  | no b => exact ⟨j8, h0 (by rw [show todo (kids acc.length (.no b)) = [] from rfl, List.append_nil]; rfl)⟩
  | letter b s => exact ⟨j8, h0 (by rw [show todo (kids acc.length (.letter b s)) = [] from rfl, List.append_nil]; rfl)⟩
  | act b s t => exact ⟨j8, h0 (by rw [show todo (kids acc.length (.act b s t)) = [] from rfl, List.append_nil]; rfl)⟩
theorem turn_ok {f : Fm} (hf : Top f) (o a : Int) (x0 j4 j5 j6 j7 j8 : Option Vl) (ce : List Ce) (acc steps td : List Dt) (h1 : acc.length < 100000) (h2 : steps.length < 100000) (h3 : td.length < 99990) :
    ∃ j8' , itB (itE ce (itS ce.length x0 j4 j5 j6 j7 j8) acc steps (td ++ [tr (f, o, a)])) = some (.nx (itE ce (itS ce.length x0 (some (.d (gd f))) (some (.d (.int o))) (some (.d (.int a))) (some (.d .non)) j8') (acc ++ [gd f]) (steps ++ [.tup [.int o, .int a]]) (td ++ todo (kids acc.length f)))) := by
  have hw := fun ce => wrong_ok hf ce
  have hne : ((acc.length : Int) == 100000) = false := by
    rw [beq_eq_false_iff_ne]
    omega
  obtain ⟨j8', e6⟩ := kids_ok f x0 (some (.d (.int o))) (some (.d (.int a))) (some (.d .non)) j8 ce acc (steps ++ [.tup [.int o, .int a]]) td h3
  refine ⟨j8', ?_⟩
  have e1 : asgS (bmM "list" (vM 3) (retM []) popF) (tupG [(nameG 4), (nameG 5), (nameG 6)]) (itE ce (itS ce.length x0 j4 j5 j6 j7 j8) acc steps (td ++ [tr (f, o, a)])) = some (.nx (itE ce (itS ce.length x0 (some (.d (gd f))) (some (.d (.int o))) (some (.d (.int a))) j7 j8) acc steps td)) :=
    zk_asg (zv_popL (i := 2) (zv_var rfl) rfl rfl) zg_tup3
  have e2 : dropS (bmM "list" (vM 2) (consM (tupM (consM (vM 5) (consM (vM 6) (retM [])))) (retM [])) appF) (itE ce (itS ce.length x0 (some (.d (gd f))) (some (.d (.int o))) (some (.d (.int a))) j7 j8) acc steps td) = some (.nx (itE ce (itS ce.length x0 (some (.d (gd f))) (some (.d (.int o))) (some (.d (.int a))) j7 j8) acc (steps ++ [.tup [.int o, .int a]]) td)) :=
    zk_drop (zv_appL (i := 1) (zv_var rfl) (zv_cons (zv_tup (zv_cons (zv_var rfl) (zv_cons (zv_var rfl) zv_ret)) (by show 2 ≤ 100000; decide) (zv_fzA1 zv_fzD (zv_fzA1 zv_fzD zv_fzA0))) zv_ret) rfl h2 rfl)
  have e3 : setS 7 (callM WRONG (consM (fzV (vM 4)) (retM []))) (itE ce (itS ce.length x0 (some (.d (gd f))) (some (.d (.int o))) (some (.d (.int a))) j7 j8) acc (steps ++ [.tup [.int o, .int a]]) td) = some (.nx (itE ce (itS ce.length x0 (some (.d (gd f))) (some (.d (.int o))) (some (.d (.int a))) (some (.d .non)) j8) acc (steps ++ [.tup [.int o, .int a]]) td)) :=
    zk_set (zv_call (zv_cons (zv_fzV (zv_var rfl) zv_fzD) zv_ret) (hw _))
  have e4 : ifS (Hk.bindM (Hk.bindM (vM 7) fun x => Hk.bindM (retM (.d .non)) (op2 (isNF true) x)) boolM) (fun _ => none) nilS (itE ce (itS ce.length x0 (some (.d (gd f))) (some (.d (.int o))) (some (.d (.int a))) (some (.d .non)) j8) acc (steps ++ [.tup [.int o, .int a]]) td) = some (.nx (itE ce (itS ce.length x0 (some (.d (gd f))) (some (.d (.int o))) (some (.d (.int a))) (some (.d .non)) j8) acc (steps ++ [.tup [.int o, .int a]]) td)) :=
    zk_ifF (zv_bind (zv_bind (zv_var rfl) (zv_bind zv_ret (zv_op2 zv_seeD zv_seeD (d := .bl false) rfl))) zv_bool) rfl zk_nil
  have e5 : ifS (Hk.bindM (Hk.bindM (Hk.bindM (consM (vM 1) (retM [])) (fn1 lenD)) fun x => Hk.bindM (retM (.d (.int 100000))) (op2 eqF x)) boolM) (fun _ => none) nilS (itE ce (itS ce.length x0 (some (.d (gd f))) (some (.d (.int o))) (some (.d (.int a))) (some (.d .non)) j8) acc (steps ++ [.tup [.int o, .int a]]) td) = some (.nx (itE ce (itS ce.length x0 (some (.d (gd f))) (some (.d (.int o))) (some (.d (.int a))) (some (.d .non)) j8) acc (steps ++ [.tup [.int o, .int a]]) td)) :=
    zk_ifF (zv_bind (zv_bind (zv_bind (zv_cons (zv_var rfl) zv_ret) (zv_fn1 (zv_seeC (get_L (i := 0) rfl)) zw_lenL)) (zv_bind zv_ret (zv_op2 zv_seeD zv_seeD (zw_eq zq_int)))) zv_bool) hne zk_nil
  have e7 : dropS (bmM "list" (vM 1) (consM (vM 4) (retM [])) appF) (itE ce (itS ce.length x0 (some (.d (gd f))) (some (.d (.int o))) (some (.d (.int a))) (some (.d .non)) j8') acc (steps ++ [.tup [.int o, .int a]]) (td ++ todo (kids acc.length f))) = some (.nx (itE ce (itS ce.length x0 (some (.d (gd f))) (some (.d (.int o))) (some (.d (.int a))) (some (.d .non)) j8') (acc ++ [gd f]) (steps ++ [.tup [.int o, .int a]]) (td ++ todo (kids acc.length f)))) :=
    zk_drop (zv_appL (i := 0) (zv_var rfl) (zv_cons (zv_var rfl) zv_ret) rfl h1 rfl)
  exact zk_seq e1 (zk_nx (zk_seq e2 (zk_nx (zk_seq e3 (zk_nx (zk_seq e4 (zk_nx (zk_seq e5 (zk_nx (zk_seq e6 (zk_nx e7)))))))))))
/-! ### items_of -/
def sz : List (Fm × Int × Int) → Nat
  | [] => 0
  | p :: r => (pre p.1).length + sz r
def preL : List (Fm × Int × Int) → List Fm
  | [] => []
  | p :: r => pre p.1 ++ preL r
theorem Wf.top : ∀ {f : Fm}, Wf f → Top f
  | .yes _, h => h
  | .no _, h => h
  | .letter _ _, h => h.1
  | .act _ _ _, h => h.1
  | .un _ _ _, h => True.intro
  | .bi _ _ _ _, h => True.intro
theorem kids_sz (n : Int) : ∀ f : Fm, (pre f).length = sz (kids n f) + 1
  | .un _ _ f => by
    show (pre f).length + 1 = _
    simp [kids, sz]
  | .bi _ _ f g => by
    show (pre f ++ pre g).length + 1 = _
    simp [kids, sz]
  | .yes _ => rfl
  | .no _ => rfl
  | .letter _ _ => rfl
  | .act _ _ _ => rfl
theorem kids_pre (n : Int) : ∀ f : Fm, pre f = f :: preL (kids n f)
  | .un _ _ f => by
    show _ :: pre f = _ :: (pre f ++ [])
    rw [List.append_nil]
  | .bi _ _ f g => by
    show _ :: (pre f ++ pre g) = _ :: (pre f ++ (pre g ++ []))
    rw [List.append_nil]
  | .yes _ => rfl
  | .no _ => rfl
  | .letter _ _ => rfl
  | .act _ _ _ => rfl
theorem kids_wf (n : Int) : ∀ {f : Fm}, Wf f → ∀ p ∈ kids n f, Wf p.1
  | .un _ _ f, h, p, hp => by
    have e : p = (f, n, 1) := by simpa [kids] using hp
    rw [e]
    exact h
  | .bi _ _ f g, h, p, hp => by
    have e : p = (f, n, 1) ∨ p = (g, n, 2) := by simpa [kids] using hp
    rcases e with e | e <;> rw [e]
    · exact h.1
    · exact h.2
  | .yes _, _, p, hp => absurd hp (List.not_mem_nil)
  | .no _, _, p, hp => absurd hp (List.not_mem_nil)
  | .letter _ _, _, p, hp => absurd hp (List.not_mem_nil)
  | .act _ _ _, _, p, hp => absurd hp (List.not_mem_nil)
theorem todo_app (a b : List (Fm × Int × Int)) : todo b ++ todo a = todo (a ++ b) := by
  unfold todo
  rw [List.reverse_append, List.map_append]
theorem sz_app (a b : List (Fm × Int × Int)) : sz (a ++ b) = sz a + sz b := by
  induction a with
  | nil => simp [sz]
  | cons p r ih =>
    show (pre p.1).length + sz (r ++ b) = _
    rw [ih]
    show _ = (pre p.1).length + sz r + sz b
    omega
theorem preL_app (a b : List (Fm × Int × Int)) : preL (a ++ b) = preL a ++ preL b := by
  induction a with
  | nil => rfl
  | cons p r ih =>
    show pre p.1 ++ preL (r ++ b) = _
    rw [ih]
    show _ = (pre p.1 ++ preL r) ++ preL b
    rw [List.append_assoc]
theorem todo_len (stk : List (Fm × Int × Int)) : (todo stk).length = stk.length := by simp [todo]
theorem pre_pos (f : Fm) : 1 ≤ (pre f).length := by rw [kids_sz 0]; omega
theorem len_sz : ∀ stk : List (Fm × Int × Int), stk.length ≤ sz stk
  | [] => Nat.le_refl _
  | p :: r => by
    have := pre_pos p.1
    have := len_sz r
    show r.length + 1 ≤ (pre p.1).length + sz r
    omega
theorem test_ok {n : Nat} {x0 j4 j5 j6 j7 j8 : Option Vl} {ce : List Ce} {acc steps td : List Dt} (hn : n = ce.length) : itT (itE ce (itS n x0 j4 j5 j6 j7 j8) acc steps td) = some (!td.isEmpty, itE ce (itS n x0 j4 j5 j6 j7 j8) acc steps td) := by
  subst hn
  exact zv_bind (zv_var rfl) (zv_tru (zv_seeC (get_L (i := 2) rfl)) rfl)
theorem loop_ok (ce : List Ce) (x0 : Option Vl) : ∀ (fuel : Nat) (stk : List (Fm × Int × Int)) (acc steps : List Dt) (j4 j5 j6 j7 j8 : Option Vl), sz stk < fuel → acc.length + sz stk ≤ 99980 → steps.length + sz stk ≤ 99980 → (∀ p ∈ stk, Wf p.1) →
    ∃ k4 k5 k6 k7 k8 steps', whileS itT itB fuel (itE ce (itS ce.length x0 j4 j5 j6 j7 j8) acc steps (todo stk)) = some (.nx (itE ce (itS ce.length x0 k4 k5 k6 k7 k8) (acc ++ (preL stk).map gd) steps' []))
  | 0, _, _, _, _, _, _, _, _, h, _, _, _ => absurd h (Nat.not_lt_zero _)
  | fuel + 1, [], acc, steps, j4, j5, j6, j7, j8, h, h1, h2, hw => ⟨j4, j5, j6, j7, j8, steps, zk_whF (test_ok rfl) rfl (by
      show itE _ _ _ _ [] = itE _ _ (acc ++ []) _ []
      rw [List.append_nil])⟩
  | fuel + 1, (f, o, a) :: stk, acc, steps, j4, j5, j6, j7, j8, h, h1, h2, hw => by
    have hf := hw (f, o, a) (List.mem_cons_self)
    have hs : sz ((f, o, a) :: stk) = (pre f).length + sz stk := rfl
    have hk := kids_sz acc.length f
    have hl := len_sz stk
    rw [hs] at h h1 h2
    obtain ⟨j8', e1⟩ := turn_ok hf.top o a x0 j4 j5 j6 j7 j8 ce acc steps (todo stk) (by omega) (by omega) (by rw [todo_len]; omega)
    rw [todo_app] at e1
    obtain ⟨k4, k5, k6, k7, k8, steps', e2⟩ := loop_ok ce x0 fuel (kids acc.length f ++ stk) (acc ++ [gd f]) (steps ++ [.tup [.int o, .int a]]) (some (.d (gd f))) (some (.d (.int o))) (some (.d (.int a))) (some (.d .non)) j8'
      (by rw [sz_app]; omega) (by rw [sz_app, List.length_append]; show acc.length + 1 + _ ≤ _; omega) (by rw [sz_app, List.length_append]; show steps.length + 1 + _ ≤ _; omega) (fun p hp => by
        rcases List.mem_append.mp hp with hp | hp
        · exact kids_wf _ hf p hp
        · exact hw p (List.mem_cons_of_mem _ hp))
    refine ⟨k4, k5, k6, k7, k8, steps', ?_⟩
    rw [todo_cons]
    refine zk_whT (test_ok rfl) (by simp) e1 ?_
    rw [e2, preL_app, List.append_assoc]
    show _ = some (Rs.nx (itE ce _ (acc ++ (pre f ++ preL stk).map gd) steps' []))
    rw [kids_pre acc.length f]
    rfl
abbrev ITEMS : Fn := f_items_of WRONG
theorem items_ok {f : Fm} (hf : Wf f) (hl : (pre f).length ≤ 99000) (ce : List Ce) : ITEMS [.d (gd f)] ce = some (.c ce.length, ce ++ [.lst ((pre f).map gd)]) := by
  obtain ⟨k4, k5, k6, k7, k8, steps', e⟩ := loop_ok ce (some (.d (gd f))) 100000 [(f, -1, 0)] [] [] none none none none none (by show (pre f).length + 0 < _; omega) (by show 0 + ((pre f).length + 0) ≤ _; omega) (by show 0 + ((pre f).length + 0) ≤ _; omega) (fun p hp => by
    have e : p = (f, -1, 0) := by simpa using hp
    rw [e]
    exact hf)
  have ep : preL [(f, -1, 0)] = pre f := by
    show pre f ++ [] = _
    rw [List.append_nil]
  rw [ep, List.nil_append] at e
  have e0 : m_items_of WRONG ⟨[some (.d (gd f)), none, none, none, none, none, none, none, none], ce⟩ = some (.rt (.c (ce.length + 0)) (itE ce (itS ce.length (some (.d (gd f))) k4 k5 k6 k7 k8) ((pre f).map gd) steps' [])) := by
    rw [itB_is]
    have a1 : setS 1 (lstM (retM [])) ⟨[some (.d (gd f)), none, none, none, none, none, none, none, none], ce⟩ = some (.nx ⟨[some (.d (gd f)), some (.c (ce.length + 0)), none, none, none, none, none, none, none], ce ++ [.lst []]⟩) := zk_set (zv_lst zv_ret (by show 0 ≤ 100000; decide) zv_fzA0 zv_newL)
    have a2 : setS 2 (lstM (retM [])) ⟨[some (.d (gd f)), some (.c (ce.length + 0)), none, none, none, none, none, none, none], ce ++ [.lst []]⟩ = some (.nx ⟨[some (.d (gd f)), some (.c (ce.length + 0)), some (.c (ce.length + 1)), none, none, none, none, none, none], ce ++ [.lst [], .lst []]⟩) := by
      rw [zk_set (zv_lst zv_ret (by show 0 ≤ 100000; decide) zv_fzA0 zv_newL)]
      simp
    have a3 : setS 3 (lstM (consM (tupM (consM (vM 0) (consM (negM (retM (.d (.int 1)))) (consM (retM (.d (.int 0))) (retM []))))) (retM []))) ⟨[some (.d (gd f)), some (.c (ce.length + 0)), some (.c (ce.length + 1)), none, none, none, none, none, none], ce ++ [.lst [], .lst []]⟩ = some (.nx (itE ce (itS ce.length (some (.d (gd f))) none none none none none) [] [] (todo [(f, -1, 0)]))) := by
      rw [zk_set (zv_lst (zv_cons (zv_tup (zv_cons (zv_var rfl) (zv_cons (zv_neg zv_ret) (zv_cons zv_ret zv_ret))) (by show 3 ≤ 100000; decide) (zv_fzA1 zv_fzD (zv_fzA1 zv_fzD (zv_fzA1 zv_fzD zv_fzA0)))) zv_ret) (by show 1 ≤ 100000; decide) (zv_fzA1 zv_fzD zv_fzA0) zv_newL)]
      simp [itE, itS, todo, tr]
    exact zk_seq a1 (zk_nx (zk_seq a2 (zk_nx (zk_seq a3 (zk_nx (zk_seq e (zk_nx (zk_ret (zv_var rfl)))))))))
  refine zf_rt e0 ?_
  show (if ce.length + 0 < ce.length then _ else _) = _
  rw [if_neg (by omega)]
  show (match (ce ++ [Ce.lst ((pre f).map gd), .lst steps', .lst []])[ce.length + 0]? with
    | some c => some (Vl.c ce.length, (ce ++ [Ce.lst ((pre f).map gd), .lst steps', .lst []]).take ce.length ++ [c])
    | none => none) = _
  rw [get_L (i := 0) rfl, List.take_left]
/-! ### signs_of -/
def sgB : En → Option Rs :=
    (seqS (setS 4 (ixDM k_FORMS_IN (Hk.bindM (vM 3) fun x => Hk.bindM (retM (.d (.int 0))) (ixF x))))
    (seqS (ifS (Hk.bindM (Hk.bindM (vM 4) fun x => Hk.bindM (retM (.d (.int 0))) (op2 eqF x)) boolM)
    (setS 5 (Hk.bindM (consM (vM 3) (retM [])) (tupleF)))
    (ifS (Hk.bindM (Hk.bindM (vM 4) fun x => Hk.bindM (retM (.d (.int 1))) (op2 eqF x)) boolM)
    (setS 5 (tupM (consM (Hk.bindM (vM 3) fun x => Hk.bindM (retM (.d (.int 0))) (ixF x)) (consM (bmM "list" (vM 2) (retM []) popF) (retM [])))))
    (setS 5 (tupM (consM (Hk.bindM (vM 3) fun x => Hk.bindM (retM (.d (.int 0))) (ixF x)) (consM (bmM "list" (vM 2) (retM []) popF) (consM (bmM "list" (vM 2) (retM []) popF) (retM []))))))))
    (seqS (dropS (bmM "list" (vM 2) (consM (vM 5) (retM [])) appF))
    (dropS (bmM "list" (vM 1) (consM (vM 5) (retM [])) appF)))))
theorem sgB_is : m_built = (seqS (setS 1 (lstM (retM [])))
    (seqS (setS 2 (lstM (retM [])))
    (seqS (forS (itemsM (revM (vM 0))) (nameG 3) sgB)
    (retS (revM (vM 1)))))) := rfl
def sgS (n : Nat) (x0 j3 j4 j5 : Option Vl) : List (Option Vl) := [x0, some (.c (n + 0)), some (.c (n + 1)), j3, j4, j5]
def sgE (ce : List Ce) (sl : List (Option Vl)) (S M : List Dt) : En := ⟨sl, ce ++ [.lst S, .lst M, .dead]⟩
theorem head_of (f : Fm) : ∃ w : Str, ixD (gd f) (.int 0) = some (.str w) ∧ look2 w k_FORMS_IN = some (.int (nsub f)) := by
  cases f with
  | yes b => cases b <;> exact ⟨_, rfl, rfl⟩
  | no b => cases b <;> exact ⟨_, rfl, rfl⟩
  | letter b s => cases b <;> exact ⟨_, rfl, rfl⟩
  | act b s t => cases b <;> exact ⟨_, rfl, rfl⟩
  | un b u f => cases b <;> cases u <;> exact ⟨_, rfl, rfl⟩
  | bi b o f g => cases b <;> cases o <;> exact ⟨_, rfl, rfl⟩
/-- what stands on the stack ahead of a form's own turn -/
def under : Fm → List Dt
  | .un _ _ f => [dt f]
  | .bi _ _ f g => [dt g, dt f]
  | _ => []
theorem sign_turn (f : Fm) (x0 j4 j5 : Option Vl) (ce : List Ce) (S M : List Dt) (h1 : S.length < 100000) (h2 : M.length < 100000) :
    ∃ k4 k5, sgB (sgE ce (sgS ce.length x0 (some (.d (gd f))) j4 j5) S (M ++ under f)) = some (.nx (sgE ce (sgS ce.length x0 (some (.d (gd f))) k4 k5) (S ++ [dt f]) (M ++ [dt f]))) := by
  obtain ⟨w, w1, w2⟩ := head_of f
  refine ⟨some (.d (.int (nsub f))), some (.d (dt f)), ?_⟩
  have e0 : ∀ {sl : List (Option Vl)} {ce : List Ce}, sl[3]? = some (some (.d (gd f))) → (Hk.bindM (vM 3) fun x => Hk.bindM (retM (.d (.int 0))) (ixF x)) ⟨sl, ce⟩ = some (.d (.str w), ⟨sl, ce⟩) := fun h => zv_bind (zv_var h) (zv_bind zv_ret (zv_ix zv_seeD zv_seeD w1))
  have e1 : setS 4 (ixDM k_FORMS_IN (Hk.bindM (vM 3) fun x => Hk.bindM (retM (.d (.int 0))) (ixF x))) (sgE ce (sgS ce.length x0 (some (.d (gd f))) j4 j5) S (M ++ under f)) = some (.nx (sgE ce (sgS ce.length x0 (some (.d (gd f))) (some (.d (.int (nsub f)))) j5) S (M ++ under f))) :=
    zk_set (zv_ixD (e0 rfl) w2)
  have e3 : dropS (bmM "list" (vM 2) (consM (vM 5) (retM [])) appF) (sgE ce (sgS ce.length x0 (some (.d (gd f))) (some (.d (.int (nsub f)))) (some (.d (dt f)))) S M) = some (.nx (sgE ce (sgS ce.length x0 (some (.d (gd f))) (some (.d (.int (nsub f)))) (some (.d (dt f)))) S (M ++ [dt f]))) :=
    zk_drop (zv_appL (i := 1) (zv_var rfl) (zv_cons (zv_var rfl) zv_ret) rfl h2 rfl)
  have e4 : dropS (bmM "list" (vM 1) (consM (vM 5) (retM [])) appF) (sgE ce (sgS ce.length x0 (some (.d (gd f))) (some (.d (.int (nsub f)))) (some (.d (dt f)))) S (M ++ [dt f])) = some (.nx (sgE ce (sgS ce.length x0 (some (.d (gd f))) (some (.d (.int (nsub f)))) (some (.d (dt f)))) (S ++ [dt f]) (M ++ [dt f]))) :=
    zk_drop (zv_appL (i := 0) (zv_var rfl) (zv_cons (zv_var rfl) zv_ret) rfl h1 rfl)
  refine zk_seq e1 (zk_nx (zk_seq (Q := .nx (sgE ce (sgS ce.length x0 (some (.d (gd f))) (some (.d (.int (nsub f)))) (some (.d (dt f)))) S M)) ?_ (zk_nx (zk_seq e3 (zk_nx e4)))))
  have at0 : ∀ (ds : List Dt), nsub f = 0 → itemsD (gd f) = some ds → dt f = .tup ds → under f = [] → ifS (Hk.bindM (Hk.bindM (vM 4) fun x => Hk.bindM (retM (.d (.int 0))) (op2 eqF x)) boolM)
    (setS 5 (Hk.bindM (consM (vM 3) (retM [])) (tupleF)))
    (ifS (Hk.bindM (Hk.bindM (vM 4) fun x => Hk.bindM (retM (.d (.int 1))) (op2 eqF x)) boolM)
    (setS 5 (tupM (consM (Hk.bindM (vM 3) fun x => Hk.bindM (retM (.d (.int 0))) (ixF x)) (consM (bmM "list" (vM 2) (retM []) popF) (retM [])))))
    (setS 5 (tupM (consM (Hk.bindM (vM 3) fun x => Hk.bindM (retM (.d (.int 0))) (ixF x)) (consM (bmM "list" (vM 2) (retM []) popF) (consM (bmM "list" (vM 2) (retM []) popF) (retM []))))))) (sgE ce (sgS ce.length x0 (some (.d (gd f))) (some (.d (.int (nsub f)))) j5) S (M ++ under f)) = some (.nx (sgE ce (sgS ce.length x0 (some (.d (gd f))) (some (.d (.int (nsub f)))) (some (.d (dt f)))) S M)) := fun ds hn hi hd hu => by
      rw [hu, List.append_nil, hn, hd]
      exact zk_ifT (zv_bind (zv_bind (zv_var rfl) (zv_bind zv_ret (zv_op2 zv_seeD zv_seeD (zw_eq zq_int)))) zv_bool) rfl (zk_set (zv_bind (zv_cons (zv_var rfl) zv_ret) (zv_tuple zv_seeD hi)))
  cases f with
  | yes b => cases b <;> exact at0 _ rfl rfl rfl rfl
  | no b => cases b <;> exact at0 _ rfl rfl rfl rfl
  | letter b s => cases b <;> exact at0 _ rfl rfl rfl rfl
  | act b s t => cases b <;> exact at0 _ rfl rfl rfl rfl
  | un b u f =>
    have hi : ixD (gd (.un b u f)) (.int 0) = some (.str u.s) := by cases b <;> rfl
    have h0 : ∀ {sl : List (Option Vl)} {ce : List Ce}, sl[3]? = some (some (.d (gd (.un b u f)))) → (Hk.bindM (vM 3) fun x => Hk.bindM (retM (.d (.int 0))) (ixF x)) ⟨sl, ce⟩ = some (.d (.str u.s), ⟨sl, ce⟩) := fun h => zv_bind (zv_var h) (zv_bind zv_ret (zv_ix zv_seeD zv_seeD hi))
    have p1 : bmM "list" (vM 2) (retM []) popF (sgE ce (sgS ce.length x0 (some (.d (gd (.un b u f)))) (some (.d (.int (nsub (.un b u f))))) j5) S (M ++ under (.un b u f))) = some (.d (dt f), sgE ce (sgS ce.length x0 (some (.d (gd (.un b u f)))) (some (.d (.int (nsub (.un b u f))))) j5) S M) := zv_popL (i := 1) (zv_var rfl) rfl rfl
    have q : setS 5 (tupM (consM (Hk.bindM (vM 3) fun x => Hk.bindM (retM (.d (.int 0))) (ixF x)) (consM (bmM "list" (vM 2) (retM []) popF) (retM [])))) (sgE ce (sgS ce.length x0 (some (.d (gd (.un b u f)))) (some (.d (.int (nsub (.un b u f))))) j5) S (M ++ under (.un b u f))) = some (.nx (sgE ce (sgS ce.length x0 (some (.d (gd (.un b u f)))) (some (.d (.int (nsub (.un b u f))))) (some (.d (dt (.un b u f))))) S M)) :=
      zk_set (zv_tup (zv_cons (h0 rfl) (zv_cons p1 zv_ret)) (by show 2 ≤ 100000; decide) (zv_fzA1 zv_fzD (zv_fzA1 zv_fzD zv_fzA0)))
    exact zk_ifF (zv_bind (zv_bind (zv_var rfl) (zv_bind zv_ret (zv_op2 zv_seeD zv_seeD (zw_eq zq_int)))) zv_bool) rfl
      (zk_ifT (zv_bind (zv_bind (zv_var rfl) (zv_bind zv_ret (zv_op2 zv_seeD zv_seeD (zw_eq zq_int)))) zv_bool) rfl q)
  | bi b o f g =>
    have hi : ixD (gd (.bi b o f g)) (.int 0) = some (.str o.s) := by cases b <;> rfl
    have hu : M ++ under (.bi b o f g) = (M ++ [dt g]) ++ [dt f] := by
      show M ++ [dt g, dt f] = _
      rw [List.append_assoc]
      rfl
    rw [hu]
    have h0 : ∀ {sl : List (Option Vl)} {ce : List Ce}, sl[3]? = some (some (.d (gd (.bi b o f g)))) → (Hk.bindM (vM 3) fun x => Hk.bindM (retM (.d (.int 0))) (ixF x)) ⟨sl, ce⟩ = some (.d (.str o.s), ⟨sl, ce⟩) := fun h => zv_bind (zv_var h) (zv_bind zv_ret (zv_ix zv_seeD zv_seeD hi))
    have p1 : bmM "list" (vM 2) (retM []) popF (sgE ce (sgS ce.length x0 (some (.d (gd (.bi b o f g)))) (some (.d (.int (nsub (.bi b o f g))))) j5) S (M ++ [dt g] ++ [dt f])) = some (.d (dt f), sgE ce (sgS ce.length x0 (some (.d (gd (.bi b o f g)))) (some (.d (.int (nsub (.bi b o f g))))) j5) S (M ++ [dt g])) := zv_popL (i := 1) (zv_var rfl) rfl rfl
    have p2 : bmM "list" (vM 2) (retM []) popF (sgE ce (sgS ce.length x0 (some (.d (gd (.bi b o f g)))) (some (.d (.int (nsub (.bi b o f g))))) j5) S (M ++ [dt g])) = some (.d (dt g), sgE ce (sgS ce.length x0 (some (.d (gd (.bi b o f g)))) (some (.d (.int (nsub (.bi b o f g))))) j5) S M) := zv_popL (i := 1) (zv_var rfl) rfl rfl
    have q : setS 5 (tupM (consM (Hk.bindM (vM 3) fun x => Hk.bindM (retM (.d (.int 0))) (ixF x)) (consM (bmM "list" (vM 2) (retM []) popF) (consM (bmM "list" (vM 2) (retM []) popF) (retM []))))) (sgE ce (sgS ce.length x0 (some (.d (gd (.bi b o f g)))) (some (.d (.int (nsub (.bi b o f g))))) j5) S (M ++ [dt g] ++ [dt f])) = some (.nx (sgE ce (sgS ce.length x0 (some (.d (gd (.bi b o f g)))) (some (.d (.int (nsub (.bi b o f g))))) (some (.d (dt (.bi b o f g))))) S M)) :=
      zk_set (zv_tup (zv_cons (h0 rfl) (zv_cons p1 (zv_cons p2 zv_ret))) (by show 3 ≤ 100000; decide) (zv_fzA1 zv_fzD (zv_fzA1 zv_fzD (zv_fzA1 zv_fzD zv_fzA0))))
    exact zk_ifF (zv_bind (zv_bind (zv_var rfl) (zv_bind zv_ret (zv_op2 zv_seeD zv_seeD (zw_eq zq_int)))) zv_bool) rfl
      (zk_ifF (zv_bind (zv_bind (zv_var rfl) (zv_bind zv_ret (zv_op2 zv_seeD zv_seeD (zw_eq zq_int)))) zv_bool) rfl q)
theorem sign_loop (x0 : Option Vl) (ce : List Ce) : ∀ (f : Fm) (S M : List Dt) (j3 j4 j5 : Option Vl), S.length + (pre f).length ≤ 99990 → M.length + (pre f).length ≤ 99990 →
    ∃ k3 k4 k5, ∀ (rest : List Dt) (R : Rs), forL (nameG 3) sgB rest (sgE ce (sgS ce.length x0 k3 k4 k5) (S ++ ((pre f).map dt).reverse) (M ++ [dt f])) = some R →
      forL (nameG 3) sgB (((pre f).map gd).reverse ++ rest) (sgE ce (sgS ce.length x0 j3 j4 j5) S M) = some R := by
  have one : ∀ (f : Fm) (S M : List Dt) (j3 j4 j5 : Option Vl), S.length < 100000 → M.length < 100000 → ∃ k4 k5, ∀ (rest : List Dt) (R : Rs), forL (nameG 3) sgB rest (sgE ce (sgS ce.length x0 (some (.d (gd f))) k4 k5) (S ++ [dt f]) (M ++ [dt f])) = some R →
      forL (nameG 3) sgB (gd f :: rest) (sgE ce (sgS ce.length x0 j3 j4 j5) S (M ++ under f)) = some R := fun f S M j3 j4 j5 h1 h2 => by
    obtain ⟨k4, k5, e⟩ := sign_turn f x0 j4 j5 ce S M h1 h2
    exact ⟨k4, k5, fun rest R h => fl_cons zg_name e h⟩
  have leaf : ∀ (f : Fm) (S M : List Dt) (j3 j4 j5 : Option Vl), pre f = [f] → under f = [] → S.length + (pre f).length ≤ 99990 → M.length + (pre f).length ≤ 99990 → ∃ k3 k4 k5, ∀ (rest : List Dt) (R : Rs), forL (nameG 3) sgB rest (sgE ce (sgS ce.length x0 k3 k4 k5) (S ++ ((pre f).map dt).reverse) (M ++ [dt f])) = some R →
      forL (nameG 3) sgB (((pre f).map gd).reverse ++ rest) (sgE ce (sgS ce.length x0 j3 j4 j5) S M) = some R := fun f S M j3 j4 j5 hp hu h1 h2 => by
    obtain ⟨k4, k5, e⟩ := one f S M j3 j4 j5 (by omega) (by omega)
    rw [hu, List.append_nil] at e
    rw [hp]
    exact ⟨some (.d (gd f)), k4, k5, fun rest R h => e rest R h⟩
  intro f
  induction f with
  | yes b => intro S M j3 j4 j5; exact leaf _ S M j3 j4 j5 rfl rfl
  | no b => intro S M j3 j4 j5; exact leaf _ S M j3 j4 j5 rfl rfl
  | letter b s => intro S M j3 j4 j5; exact leaf _ S M j3 j4 j5 rfl rfl
  | act b s t => intro S M j3 j4 j5; exact leaf _ S M j3 j4 j5 rfl rfl
  | un b u f ih =>
    intro S M j3 j4 j5 h1 h2
    have hp : (pre (.un b u f)).length = (pre f).length + 1 := rfl
    obtain ⟨k3, k4, k5, e1⟩ := ih S M j3 j4 j5 (by omega) (by omega)
    obtain ⟨l4, l5, e2⟩ := one (.un b u f) (S ++ ((pre f).map dt).reverse) M k3 k4 k5 (by simp; omega) (by omega)
    refine ⟨some (.d (gd (.un b u f))), l4, l5, fun rest R h => ?_⟩
    have er : ((pre (.un b u f)).map gd).reverse ++ rest = ((pre f).map gd).reverse ++ (gd (.un b u f) :: rest) := by
      show (gd (.un b u f) :: (pre f).map gd).reverse ++ rest = _
      rw [List.reverse_cons, List.append_assoc]
      rfl
    rw [er]
    refine e1 _ R (e2 rest R ?_)
    have es : S ++ ((pre (.un b u f)).map dt).reverse = S ++ ((pre f).map dt).reverse ++ [dt (.un b u f)] := by
      show S ++ (dt (.un b u f) :: (pre f).map dt).reverse = _
      rw [List.reverse_cons, List.append_assoc]
    rw [es] at h
    exact h
  | bi b o f g ihf ihg =>
    intro S M j3 j4 j5 h1 h2
    have hp : (pre (.bi b o f g)).length = (pre f).length + (pre g).length + 1 := by
      show (pre f ++ pre g).length + 1 = _
      rw [List.length_append]
    obtain ⟨k3, k4, k5, e1⟩ := ihg S M j3 j4 j5 (by omega) (by omega)
    obtain ⟨l3, l4, l5, e2⟩ := ihf (S ++ ((pre g).map dt).reverse) (M ++ [dt g]) k3 k4 k5 (by simp; omega) (by simp; omega)
    obtain ⟨m4, m5, e3⟩ := one (.bi b o f g) (S ++ ((pre g).map dt).reverse ++ ((pre f).map dt).reverse) M l3 l4 l5 (by simp; omega) (by omega)
    refine ⟨some (.d (gd (.bi b o f g))), m4, m5, fun rest R h => ?_⟩
    have er : ((pre (.bi b o f g)).map gd).reverse ++ rest = ((pre g).map gd).reverse ++ (((pre f).map gd).reverse ++ (gd (.bi b o f g) :: rest)) := by
      show (gd (.bi b o f g) :: (pre f ++ pre g).map gd).reverse ++ rest = _
      rw [List.reverse_cons, List.map_append, List.reverse_append]
      simp
    rw [er]
    refine e1 _ R (e2 _ R ?_)
    have em : M ++ [dt g] ++ [dt f] = M ++ under (.bi b o f g) := by
      rw [List.append_assoc]
      rfl
    rw [em]
    refine e3 rest R ?_
    have es : S ++ ((pre (.bi b o f g)).map dt).reverse = S ++ ((pre g).map dt).reverse ++ ((pre f).map dt).reverse ++ [dt (.bi b o f g)] := by
      show S ++ (dt (.bi b o f g) :: (pre f ++ pre g).map dt).reverse = _
      rw [List.reverse_cons, List.map_append, List.reverse_append]
      simp
    rw [es] at h
    exact h
abbrev BUILT : Fn := f_built
theorem built_ok {f : Fm} (hl : (pre f).length ≤ 99000) (ce : List Ce) : BUILT [.d (.lst ((pre f).map gd))] ce = some (.c ce.length, ce ++ [.lst ((pre f).map dt)]) := by
  generalize hx : (some (Vl.d (.lst ((pre f).map gd))) : Option Vl) = x0
  obtain ⟨k3, k4, k5, e⟩ := sign_loop x0 ce f [] [] none none none (by simp; omega) (by simp; omega)
  have e := e [] (.nx (sgE ce (sgS ce.length x0 k3 k4 k5) ([] ++ ((pre f).map dt).reverse) ([] ++ [dt f]))) rfl
  rw [List.append_nil, List.nil_append, List.nil_append] at e
  have e0 : m_built ⟨[x0, none, none, none, none, none], ce⟩ = some (.rt (.c (ce.length + 3)) ⟨sgS ce.length x0 k3 k4 k5, ce ++ [.lst ((pre f).map dt).reverse, .lst [dt f], .dead, .lst ((pre f).map dt)]⟩) := by
    rw [sgB_is]
    have a1 : setS 1 (lstM (retM [])) ⟨[x0, none, none, none, none, none], ce⟩ = some (.nx ⟨[x0, some (.c (ce.length + 0)), none, none, none, none], ce ++ [.lst []]⟩) := zk_set (zv_lst zv_ret (by show 0 ≤ 100000; decide) zv_fzA0 zv_newL)
    have a2 : setS 2 (lstM (retM [])) ⟨[x0, some (.c (ce.length + 0)), none, none, none, none], ce ++ [.lst []]⟩ = some (.nx ⟨sgS ce.length x0 none none none, ce ++ [.lst [], .lst []]⟩) := by
      rw [zk_set (zv_lst zv_ret (by show 0 ≤ 100000; decide) zv_fzA0 zv_newL)]
      simp [sgS]
    have a3 : itemsM (revM (vM 0)) ⟨sgS ce.length x0 none none none, ce ++ [.lst [], .lst []]⟩ = some (((pre f).map gd).reverse, sgE ce (sgS ce.length x0 none none none) [] []) := by
      have h3 : revM (vM 0) ⟨sgS ce.length x0 none none none, ce ++ [.lst [], .lst []]⟩ = some (.c (ce.length + 2), ⟨sgS ce.length x0 none none none, ce ++ [.lst [], .lst [], .lst ((pre f).map gd).reverse]⟩) := by
        have hv : vM 0 ⟨sgS ce.length x0 none none none, ce ++ [.lst [], .lst []]⟩ = some (.d (.lst ((pre f).map gd)), ⟨sgS ce.length x0 none none none, ce ++ [.lst [], .lst []]⟩) := zv_var (by subst hx; rfl)
        rw [zv_rev hv zv_seeD]
        simp
      have h4 := zv_fzC (sl := sgS ce.length x0 none none none) (get_L (ce := ce) (L := [.lst [], .lst [], .lst ((pre f).map gd).reverse]) (i := 2) rfl)
      rw [set_L] at h4
      rw [zv_items h3 h4 rfl]
      have n1 : ¬ (ce.length + 0 = ce.length + 2) := by omega
      have n2 : ¬ (ce.length + 1 = ce.length + 2) := by omega
      subst hx
      show some (_, En.mk [_, some (if ce.length + 0 = ce.length + 2 then _ else .c (ce.length + 0)), some (if ce.length + 1 = ce.length + 2 then _ else .c (ce.length + 1)), none, none, none] _) = _
      rw [if_neg n1, if_neg n2]
      rfl
    have a4 : retS (revM (vM 1)) (sgE ce (sgS ce.length x0 k3 k4 k5) ((pre f).map dt).reverse [dt f]) = some (.rt (.c (ce.length + 3)) ⟨sgS ce.length x0 k3 k4 k5, ce ++ [.lst ((pre f).map dt).reverse, .lst [dt f], .dead, .lst ((pre f).map dt)]⟩) := by
      have h := zv_rev (E := sgE ce (sgS ce.length x0 k3 k4 k5) ((pre f).map dt).reverse [dt f]) (m := vM 1) (zv_var rfl) (zv_seeC (get_L (i := 0) rfl))
      rw [zk_ret h]
      simp
    exact zk_seq a1 (zk_nx (zk_seq a2 (zk_nx (zk_seq (zk_for a3 e) (zk_nx a4)))))
  subst hx
  refine zf_rt e0 ?_
  show (if ce.length + 3 < ce.length then _ else _) = _
  rw [if_neg (by omega)]
  show (match (ce ++ [Ce.lst ((pre f).map dt).reverse, .lst [dt f], .dead, .lst ((pre f).map dt)])[ce.length + 3]? with
    | some c => some (Vl.c ce.length, (ce ++ [Ce.lst ((pre f).map dt).reverse, .lst [dt f], .dead, .lst ((pre f).map dt)]).take ce.length ++ [c])
    | none => none) = _
  rw [get_L (i := 3) rfl, List.take_left]
abbrev SIGNS : Fn := f_signs_of BUILT ITEMS
theorem signs_ok {f : Fm} (hf : Wf f) (hl : (pre f).length ≤ 99000) (ce : List Ce) : SIGNS [.d (gd f)] ce = some (.c ce.length, ce ++ [.lst ((pre f).map dt)]) := by
  have h1 := items_ok hf hl ce
  have h2 : callM ITEMS (consM (fzV (vM 0)) (retM [])) ⟨[some (.d (gd f))], ce⟩ = some (.c ce.length, ⟨[some (.d (gd f))], ce ++ [.lst ((pre f).map gd)]⟩) := zv_call (zv_cons (zv_fzV (zv_var rfl) zv_fzD) zv_ret) h1
  have h3 : fzV (callM ITEMS (consM (fzV (vM 0)) (retM []))) ⟨[some (.d (gd f))], ce⟩ = some (.d (.lst ((pre f).map gd)), ⟨[some (.d (gd f))], ce ++ [.dead]⟩) := by
    have h4 := zv_fzC (sl := [some (.d (gd f))]) (get_new ce (Ce.lst ((pre f).map gd)))
    rw [set_new] at h4
    exact zv_fzV h2 h4
  have h4 : (consM (fzV (callM ITEMS (consM (fzV (vM 0)) (retM [])))) (retM [])) ⟨[some (.d (gd f))], ce⟩ = some ([.d (.lst ((pre f).map gd))], ⟨[some (.d (gd f))], ce ++ [.dead]⟩) := zv_cons h3 zv_ret
  have h6 : callM BUILT (consM (fzV (callM ITEMS (consM (fzV (vM 0)) (retM [])))) (retM [])) ⟨[some (.d (gd f))], ce⟩ = some (.c (ce ++ [Ce.dead]).length, ⟨[some (.d (gd f))], ce ++ [.dead] ++ [.lst ((pre f).map dt)]⟩) := by
    have h7 := built_ok (f := f) hl (ce ++ [Ce.dead])
    exact zv_call (G := BUILT) h4 h7
  have h5 : m_signs_of BUILT ITEMS ⟨[some (.d (gd f))], ce⟩ = some (.rt (.c (ce ++ [Ce.dead]).length) ⟨[some (.d (gd f))], ce ++ [.dead] ++ [.lst ((pre f).map dt)]⟩) := by
    have e : m_signs_of BUILT ITEMS = retS (callM BUILT (consM (fzV (callM ITEMS (consM (fzV (vM 0)) (retM [])))) (retM []))) := rfl
    rw [e]
    exact zk_ret h6
  refine zf_rt h5 ?_
  show (if _ < _ then _ else _) = _
  rw [if_neg (by simp)]
  show (match (ce ++ [Ce.dead] ++ [Ce.lst ((pre f).map dt)])[(ce ++ [Ce.dead]).length]? with
    | some c => some (Vl.c ce.length, (ce ++ [Ce.dead] ++ [Ce.lst ((pre f).map dt)]).take ce.length ++ [c])
    | none => none) = _
  rw [get_new]
  simp
/-! ### the object -/
abbrev INIT : Fn := f_Saying___init__ SIGNS
def sgn (f : Fm) : Dt := .lst ((pre f).map dt)
def sayC (f : Fm) : Ce := .ins "Saying" ["_signs", "_form"] [sgn f, dt f]
def sayD (f : Fm) : Dt := .obj "Saying" ["_signs", "_form"] [sgn f, dt f]
def sgnC (f : Fm) : Ce := .lst ((pre f).map dt)
theorem sgn0 (f : Fm) : ixD (sgn f) (.int 0) = some (dt f) := by
  show atI ((pre f).map dt) ((0 : Nat) : Int) = some (dt f)
  exact atI_nat (by cases f <;> rfl)
theorem init_ok {f : Fm} (hf : Wf f) (hl : (pre f).length ≤ 99000) (ce : List Ce) : INIT [.c ce.length, .d (gd f)] (ce ++ [.ins "Saying" [] []]) = some (.d .non, ce ++ [sayC f]) := by
  have h1 := signs_ok hf hl (ce ++ [.ins "Saying" [] []])
  have a1 : callM SIGNS (consM (fzV (vM 1)) (retM [])) ⟨[some (.c (ce.length + 0)), some (.d (gd f))], ce ++ [.ins "Saying" [] []]⟩ = some (.c (ce.length + 1), ⟨[some (.c (ce.length + 0)), some (.d (gd f))], ce ++ [.ins "Saying" [] [], sgnC f]⟩) := by
    rw [zv_call (zv_cons (zv_fzV (zv_var rfl) zv_fzD) zv_ret) h1]
    simp [sgnC]
  have a2 : fzM (.c (ce.length + 1)) ⟨[some (.c (ce.length + 0)), some (.d (gd f))], ce ++ [.ins "Saying" [] [], sgnC f]⟩ = some (sgn f, ⟨[some (.c (ce.length + 0)), some (.d (gd f))], ce ++ [.ins "Saying" [] [], .dead]⟩) := by
    rw [zv_fzC (get_L (i := 1) rfl), set_L]
    have n1 : ¬ (ce.length + 0 = ce.length + 1) := by omega
    show some (_, En.mk [some (if ce.length + 0 = ce.length + 1 then _ else .c (ce.length + 0)), _] _) = _
    rw [if_neg n1]
    rfl
  have e1 : setFS "Saying" "_signs" (callM SIGNS (consM (fzV (vM 1)) (retM []))) (vM 0) ⟨[some (.c (ce.length + 0)), some (.d (gd f))], ce ++ [.ins "Saying" [] []]⟩ = some (.nx ⟨[some (.c (ce.length + 0)), some (.d (gd f))], ce ++ [.ins "Saying" ["_signs"] [sgn f], .dead]⟩) := by
    rw [zk_setF a1 a2 (zv_var rfl) (get_L (i := 0) rfl) (by decide), set_L]
    rfl
  have a3 : (Hk.bindM (fldM "Saying" "_signs" (vM 0)) fun x => Hk.bindM (retM (.d (.int 0))) (ixF x)) ⟨[some (.c (ce.length + 0)), some (.d (gd f))], ce ++ [.ins "Saying" ["_signs"] [sgn f], .dead]⟩ = some (.d (dt f), ⟨[some (.c (ce.length + 0)), some (.d (gd f))], ce ++ [.ins "Saying" ["_signs"] [sgn f], .dead]⟩) :=
    zv_bind (zv_fld (zv_var rfl) (zv_seeX (get_L (i := 0) rfl) rfl) (d := sgn f) rfl) (zv_bind zv_ret (zv_ix zv_seeD zv_seeD (sgn0 f)))
  have e2 : setFS "Saying" "_form" (Hk.bindM (fldM "Saying" "_signs" (vM 0)) fun x => Hk.bindM (retM (.d (.int 0))) (ixF x)) (vM 0) ⟨[some (.c (ce.length + 0)), some (.d (gd f))], ce ++ [.ins "Saying" ["_signs"] [sgn f], .dead]⟩ = some (.nx ⟨[some (.c (ce.length + 0)), some (.d (gd f))], ce ++ [sayC f, .dead]⟩) := by
    rw [zk_setF a3 zv_fzD (zv_var rfl) (get_L (i := 0) rfl) (by decide), set_L]
    rfl
  refine zf_nx (zk_seq e1 (zk_nx e2)) ?_
  refine trim_d ?_
  show (ce ++ ([sayC f] ++ [Ce.dead])).take (ce ++ [Ce.ins "Saying" [] []]).length = _
  rw [← List.append_assoc, show (ce ++ [Ce.ins "Saying" [] []]).length = (ce ++ [sayC f]).length by simp, List.take_left]
theorem make_ok {f : Fm} (hf : Wf f) (hl : (pre f).length ≤ 99000) {m : M (List Vl)} {E : En} {sl : List (Option Vl)} {ce : List Ce} (h : m E = some ([.d (gd f)], ⟨sl, ce⟩)) : makeM "Saying" INIT m E = some (.c ce.length, ⟨sl, ce ++ [sayC f]⟩) := zv_make h (init_ok hf hl ce)
/-- a value that is seen as a saying -/
def Say (ce : List Ce) (x : Vl) (f : Fm) : Prop := see ce x = some (sayD f)
theorem Say.new {ce : List Ce} {f : Fm} : Say (ce ++ [sayC f]) (.c ce.length) f := zv_seeX (get_new _ _) rfl
theorem fld_form {m : M Vl} {E E1 : En} {x : Vl} {f : Fm} (h : m E = some (x, E1)) (hs : Say E1.ce x f) : fldM "Saying" "_form" m E = some (.d (dt f), E1) := zv_fld h hs (d := dt f) rfl
theorem form_ok {ce : List Ce} {x : Vl} {f : Fm} (hs : Say ce x f) : f_Saying_form [x] ce = some (.d (dt f), ce) := by
  refine zf_rt (nl := 0) (m := m_Saying_form) (E := ⟨[some x], ce⟩) (r := .d (dt f)) (zk_ret (fld_form (zv_var rfl) hs)) (trim_d (List.take_length))
/-- tuples throughout -/
def Pl : Fm → Prop
  | .yes b => b = false
  | .no b => b = false
  | .letter b _ => b = false
  | .act b _ _ => b = false
  | .un b _ f => b = false ∧ Pl f
  | .bi b _ f g => b = false ∧ Pl f ∧ Pl g
theorem Pl.eq : ∀ {f : Fm}, Pl f → gd f = dt f
  | .yes _, h => by cases h; rfl
  | .no _, h => by cases h; rfl
  | .letter _ _, h => by cases h; rfl
  | .act _ _ _, h => by cases h; rfl
  | .un _ _ f, ⟨h, h2⟩ => by
    cases h
    show Dt.tup [_, gd f] = Dt.tup [_, dt f]
    rw [Pl.eq h2]
  | .bi _ _ f g, ⟨h, h2, h3⟩ => by
    cases h
    show Dt.tup [_, gd f, gd g] = Dt.tup [_, dt f, dt g]
    rw [Pl.eq h2, Pl.eq h3]
/-! ### leaves that are read back -/
/-! ### texts -/
def mkS (l : List Nat) : Str := ⟨l.toArray⟩
def wd (s : Str) : List Nat := s.cps.toList
theorem mkS_wd (s : Str) : mkS (wd s) = s := by
  cases s
  rfl
theorem mkS_app (a b : List Nat) : mkS a ++ mkS b = mkS (a ++ b) := by
  show Str.mk (a.toArray ++ b.toArray) = Str.mk (a ++ b).toArray
  simp
theorem mkS_len (l : List Nat) : (mkS l).length = l.length := by
  show l.toArray.size = l.length
  simp
theorem wd_mkS (l : List Nat) : wd (mkS l) = l := by
  show l.toArray.toList = l
  simp
theorem empty_app (l : List Nat) : Str.empty ++ mkS l = mkS l := mkS_app [] l
def Un.c : Un → Nat
  | .not => 126
  | .box => 35
def Bi.c : Bi → Nat
  | .and => 38
  | .or => 124
  | .iff => 62
def Bi.m (o : Bi) : List Nat := [32, o.c, 32]
def tl : Fm → List Nat
  | .yes _ => wd "yes"
  | .no _ => wd "no"
  | .letter _ s => wd s
  | .act _ s t => wd s ++ [45] ++ wd t
  | .un _ u f => u.c :: tl f
  | .bi _ o f g => 40 :: (tl f ++ o.m ++ tl g ++ [41])
def tx (f : Fm) : Str := mkS (tl f)
def txD (f : Fm) : Dt := .str (tx f)
/-- leaves with small words -/
def Ws : Fm → Prop
  | .letter _ s => Small s
  | .act _ s t => Small s ∧ Small t
  | .un _ _ f => Ws f
  | .bi _ _ f g => Ws f ∧ Ws g
  | _ => True
theorem wd_len (s : Str) : (wd s).length = s.length := by
  show s.cps.toList.length = s.cps.size
  simp
theorem tl_len : ∀ {f : Fm}, Ws f → (tl f).length ≤ 20 * (pre f).length
  | .yes _, _ => by show (wd "yes").length ≤ 20 * 1; decide +kernel
  | .no _, _ => by show (wd "no").length ≤ 20 * 1; decide +kernel
  | .letter _ s, h => by
    show (wd s).length ≤ 20 * 1
    rw [wd_len]
    have := h.2.1
    omega
  | .act _ s t, h => by
    show (wd s ++ [45] ++ wd t).length ≤ 20 * 1
    rw [List.length_append, List.length_append, wd_len, wd_len]
    have := h.1.2.1
    have := h.2.2.1
    simp only [List.length_cons, List.length_nil]
    omega
  | .un _ _ f, h => by
    have := tl_len (f := f) h
    simp only [tl, pre, List.length_cons]
    omega
  | .bi _ o f g, h => by
    have := tl_len h.1
    have := tl_len h.2
    simp only [tl, pre, List.length_cons, List.length_append, Bi.m, List.length_nil]
    omega
theorem zv_js0 {acc : Str} {E : En} : jsM [] acc E = some (.d (.str acc), E) := rfl
theorem zv_js {m : M Vl} {ms : List (M Vl)} {acc y : Str} {E E1 E2 : En} {z : Vl} (h : m E = some (.d (.str y), E1)) (hl : (acc ++ y).length ≤ 100000) (g : jsM ms (acc ++ y) E1 = some (z, E2)) : jsM (m :: ms) acc E = some (z, E2) := zv_bind h (by
  show (if _ then _ else _ : M Vl) E1 = _
  rw [if_pos (sz_of hl)]
  exact g)
theorem zv_fmt {m : M Vl} {y : Str} {E E1 : En} (h : m E = some (.d (.str y), E1)) (hl : y.length ≤ 100000) : fmtM m E = some (.d (.str y), E1) := zv_bind h (by
  show (if _ then _ else _ : M Vl) E1 = _
  rw [if_pos (sz_of hl)]
  rfl)
theorem zv_inA {neg : Bool} {tb : List (Str × Dt)} {m : M Vl} {s : Str} {E E1 : En} (h : m E = some (.d (.str s), E1)) : inAM neg tb m E = some (.d (.bl (if (look2 s tb).isSome = true then !neg else neg)), E1) := zv_bind h rfl
/-! ### text_with -/
abbrev TW : Fn := f_text_with
def inner : Fm → List Dt
  | .un _ _ f => [txD f]
  | .bi _ _ f g => [txD f, txD g]
  | _ => []
theorem str_eq {s t : Str} (hs : PyData.strOk s = true) (ht : PyData.strOk t = true) (h : s ≠ t) : eqd (.str s) (.str t) = some false := by
  rw [zq_str hs ht, decide_eq_false h]
def hw : Fm → Str
  | .yes _ => "yes"
  | .no _ => "no"
  | .letter _ _ => "letter"
  | .act _ _ _ => "act"
  | .un _ u _ => u.s
  | .bi _ o _ _ => o.s
theorem dt0 (f : Fm) : ixD (dt f) (.int 0) = some (.str (hw f)) := by
  cases f <;> rfl
theorem eqw {a b : Str} {k : Bool} (ha : PyData.strOk a = true) (hb : PyData.strOk b = true) (h : decide (a = b) = k) : eqF (.str a) (.str b) = some (.bl k) := zw_eq (by rw [zq_str ha hb, h])
def isL : Fm → Bool
  | .letter _ _ => true
  | _ => false
def isA : Fm → Bool
  | .act _ _ _ => true
  | _ => false
theorem hw_ok (f : Fm) : PyData.strOk (hw f) = true := by
  cases f with
  | yes b => show PyData.strOk "yes" = true; decide +kernel
  | no b => show PyData.strOk "no" = true; decide +kernel
  | letter b s => show PyData.strOk "letter" = true; decide +kernel
  | act b s t => show PyData.strOk "act" = true; decide +kernel
  | un b u f => cases u <;> (first | (show PyData.strOk "not" = true; decide +kernel) | (show PyData.strOk "box" = true; decide +kernel))
  | bi b o f g => cases o <;> (first | (show PyData.strOk "and" = true; decide +kernel) | (show PyData.strOk "or" = true; decide +kernel) | (show PyData.strOk "if" = true; decide +kernel))
theorem hw_L (f : Fm) : decide (hw f = "letter") = isL f := by
  cases f with
  | yes b => show decide (("yes" : Str) = "letter") = false; decide +kernel
  | no b => show decide (("no" : Str) = "letter") = false; decide +kernel
  | letter b s => show decide (("letter" : Str) = "letter") = true; decide +kernel
  | act b s t => show decide (("act" : Str) = "letter") = false; decide +kernel
  | un b u f => cases u <;> (first | (show decide (("not" : Str) = "letter") = false; decide +kernel) | (show decide (("box" : Str) = "letter") = false; decide +kernel))
  | bi b o f g => cases o <;> (first | (show decide (("and" : Str) = "letter") = false; decide +kernel) | (show decide (("or" : Str) = "letter") = false; decide +kernel) | (show decide (("if" : Str) = "letter") = false; decide +kernel))
theorem hw_A (f : Fm) : decide (hw f = "act") = isA f := by
  cases f with
  | yes b => show decide (("yes" : Str) = "act") = false; decide +kernel
  | no b => show decide (("no" : Str) = "act") = false; decide +kernel
  | letter b s => show decide (("letter" : Str) = "act") = false; decide +kernel
  | act b s t => show decide (("act" : Str) = "act") = true; decide +kernel
  | un b u f => cases u <;> (first | (show decide (("not" : Str) = "act") = false; decide +kernel) | (show decide (("box" : Str) = "act") = false; decide +kernel))
  | bi b o f g => cases o <;> (first | (show decide (("and" : Str) = "act") = false; decide +kernel) | (show decide (("or" : Str) = "act") = false; decide +kernel) | (show decide (("if" : Str) = "act") = false; decide +kernel))
theorem eL {f : Fm} {k : Bool} (h : isL f = k) : eqF (.str (hw f)) (.str "letter") = some (.bl k) := eqw (hw_ok f) (by decide +kernel) (by rw [hw_L, h])
theorem eA {f : Fm} {k : Bool} (h : isA f = k) : eqF (.str (hw f)) (.str "act") = some (.bl k) := eqw (hw_ok f) (by decide +kernel) (by rw [hw_A, h])
theorem tw_ok {f : Fm} (hw0 : Ws f) (hl : (pre f).length ≤ 1000) (ce : List Ce) : TW [.d (dt f), .d (.lst (inner f))] ce = some (.d (txD f), ce) := by
  have hb := tl_len hw0
  have key : m_text_with ⟨[some (.d (dt f)), some (.d (.lst (inner f))), none], ce⟩ = some (.rt (.d (txD f)) ⟨[some (.d (dt f)), some (.d (.lst (inner f))), some (.d (.str (hw f)))], ce⟩) → TW [.d (dt f), .d (.lst (inner f))] ce = some (.d (txD f), ce) := fun e => zf_rt e (trim_d List.take_length)
  have e0 : setS 2 (Hk.bindM (vM 0) fun x => Hk.bindM (retM (.d (.int 0))) (ixF x)) ⟨[some (.d (dt f)), some (.d (.lst (inner f))), none], ce⟩ = some (.nx ⟨[some (.d (dt f)), some (.d (.lst (inner f))), some (.d (.str (hw f)))], ce⟩) := by
    have e : (Hk.bindM (vM 0) fun x => Hk.bindM (retM (.d (.int 0))) (ixF x)) ⟨[some (.d (dt f)), some (.d (.lst (inner f))), none], ce⟩ = some (.d (.str (hw f)), ⟨[some (.d (dt f)), some (.d (.lst (inner f))), none], ce⟩) := zv_bind (zv_var rfl) (zv_bind zv_ret (zv_ix zv_seeD zv_seeD (dt0 f)))
    exact zk_set e
  have tst : ∀ {w : Str} {k : Bool}, eqF (.str (hw f)) (.str w) = some (.bl k) → (Hk.bindM (Hk.bindM (vM 2) fun x => Hk.bindM (retM (.d (.str w))) (op2 eqF x)) boolM) ⟨[some (.d (dt f)), some (.d (.lst (inner f))), some (.d (.str (hw f)))], ce⟩ = some (k, ⟨[some (.d (dt f)), some (.d (.lst (inner f))), some (.d (.str (hw f)))], ce⟩) := fun h => zv_bind (zv_bind (zv_var rfl) (zv_bind zv_ret (zv_op2 zv_seeD zv_seeD h))) zv_bool
  have tin : ∀ {tb : List (Str × Dt)} {k : Bool}, (if (look2 (hw f) tb).isSome = true then !false else false) = k → (Hk.bindM (inAM false tb (vM 2)) boolM) ⟨[some (.d (dt f)), some (.d (.lst (inner f))), some (.d (.str (hw f)))], ce⟩ = some (k, ⟨[some (.d (dt f)), some (.d (.lst (inner f))), some (.d (.str (hw f)))], ce⟩) := fun h => by
    subst h
    exact zv_bind (zv_inA (zv_var rfl)) zv_bool
  have sub : ∀ {i : Int} {d : Dt}, ixD (dt f) (.int i) = some d → (Hk.bindM (vM 0) fun x => Hk.bindM (retM (.d (.int i))) (ixF x)) ⟨[some (.d (dt f)), some (.d (.lst (inner f))), some (.d (.str (hw f)))], ce⟩ = some (.d d, ⟨[some (.d (dt f)), some (.d (.lst (inner f))), some (.d (.str (hw f)))], ce⟩) := fun h => zv_bind (zv_var rfl) (zv_bind zv_ret (zv_ix zv_seeD zv_seeD h))
  have inn : ∀ {i : Int} {d : Dt}, ixD (.lst (inner f)) (.int i) = some d → (Hk.bindM (vM 1) fun x => Hk.bindM (retM (.d (.int i))) (ixF x)) ⟨[some (.d (dt f)), some (.d (.lst (inner f))), some (.d (.str (hw f)))], ce⟩ = some (.d d, ⟨[some (.d (dt f)), some (.d (.lst (inner f))), some (.d (.str (hw f)))], ce⟩) := fun h => zv_bind (zv_var rfl) (zv_bind zv_ret (zv_ix zv_seeD zv_seeD h))
  cases f with
  | yes b =>
    refine key (zk_seq e0 (zk_nx (zk_seq (zk_ifF (tst (k := false) (eL rfl)) rfl zk_nil) (zk_nx (zk_seq (zk_ifF (tst (k := false) (eA rfl)) rfl zk_nil) (zk_nx (zk_seq (zk_ifF (tin (k := false) rfl) rfl zk_nil) (zk_nx (zk_seq (zk_ifF (tin (k := false) rfl) rfl zk_nil) (zk_nx (zk_ret ?_)))))))))))
    exact zv_var rfl
  | no b =>
    refine key (zk_seq e0 (zk_nx (zk_seq (zk_ifF (tst (k := false) (eL rfl)) rfl zk_nil) (zk_nx (zk_seq (zk_ifF (tst (k := false) (eA rfl)) rfl zk_nil) (zk_nx (zk_seq (zk_ifF (tin (k := false) rfl) rfl zk_nil) (zk_nx (zk_seq (zk_ifF (tin (k := false) rfl) rfl zk_nil) (zk_nx (zk_ret ?_)))))))))))
    exact zv_var rfl
  | letter b s =>
    refine key (zk_seq e0 (zk_nx (zk_seq (zk_ifT (tst (k := true) (eL rfl)) rfl (zk_ret (sub (i := 1) ?_))) zk_rt)))
    show some (Dt.str s) = some (txD (.letter b s))
    rw [show txD (.letter b s) = .str (mkS (wd s)) from rfl, mkS_wd]
  | act b s t =>
    have h1 := hw0.1.2.1
    have h2 := hw0.2.2.1
    have ls : (mkS (wd s)).length = s.length := by rw [mkS_wd]
    have lt : (mkS (wd t)).length = t.length := by rw [mkS_wd]
    have hdash : (("-" : Str)) = mkS [45] := by decide +kernel
    refine key (zk_seq e0 (zk_nx (zk_seq (zk_ifF (tst (k := false) (eL rfl)) rfl zk_nil) (zk_nx (zk_seq (zk_ifT (tst (k := true) (eA rfl)) rfl (zk_ret ?_)) zk_rt)))))
    have a1 : (Hk.bindM (vM 0) fun x => Hk.bindM (retM (.d (.int 1))) (ixF x)) ⟨[some (.d (dt (.act b s t))), some (.d (.lst (inner (.act b s t)))), some (.d (.str (hw (.act b s t))))], ce⟩ = some (.d (.str (mkS (wd s))), ⟨[some (.d (dt (.act b s t))), some (.d (.lst (inner (.act b s t)))), some (.d (.str (hw (.act b s t))))], ce⟩) := by
      rw [mkS_wd]
      exact sub (i := 1) rfl
    have a2 : (Hk.bindM (vM 0) fun x => Hk.bindM (retM (.d (.int 2))) (ixF x)) ⟨[some (.d (dt (.act b s t))), some (.d (.lst (inner (.act b s t)))), some (.d (.str (hw (.act b s t))))], ce⟩ = some (.d (.str (mkS (wd t))), ⟨[some (.d (dt (.act b s t))), some (.d (.lst (inner (.act b s t)))), some (.d (.str (hw (.act b s t))))], ce⟩) := by
      rw [mkS_wd]
      exact sub (i := 2) rfl
    refine zv_js (zv_fmt a1 (by omega)) (by rw [empty_app]; omega) ?_
    rw [empty_app, hdash]
    refine zv_js zv_ret (by rw [mkS_app, mkS_len, List.length_append, wd_len]; simp only [List.length_cons, List.length_nil]; omega) ?_
    rw [mkS_app]
    refine zv_js (zv_fmt a2 (by omega)) (by rw [mkS_app, mkS_len, List.length_append, List.length_append, wd_len, wd_len]; simp only [List.length_cons, List.length_nil]; omega) ?_
    rw [mkS_app]
    exact zv_js0
  | un b u f =>
    have hb2 : (tl f).length ≤ 30000 := by
      have := tl_len (f := f) hw0
      have : (pre (.un b u f)).length = (pre f).length + 1 := rfl
      omega
    have e1 : TW [.d (dt (.un b u f)), .d (.lst (inner (.un b u f)))] ce = TW [.d (dt (.un b u f)), .d (.lst (inner (.un b u f)))] ce := rfl
    have tail : ∀ {c : Str}, c = mkS [u.c] → ixDM k_AHEAD (vM 2) ⟨[some (.d (dt (.un b u f))), some (.d (.lst (inner (.un b u f)))), some (.d (.str (hw (.un b u f))))], ce⟩ = some (.d (.str c), ⟨[some (.d (dt (.un b u f))), some (.d (.lst (inner (.un b u f)))), some (.d (.str (hw (.un b u f))))], ce⟩) →
        (Hk.bindM (ixDM k_AHEAD (vM 2)) fun x => Hk.bindM (Hk.bindM (vM 1) fun x => Hk.bindM (retM (.d (.int 0))) (ixF x)) (addF x)) ⟨[some (.d (dt (.un b u f))), some (.d (.lst (inner (.un b u f)))), some (.d (.str (hw (.un b u f))))], ce⟩ = some (.d (txD (.un b u f)), ⟨[some (.d (dt (.un b u f))), some (.d (.lst (inner (.un b u f)))), some (.d (.str (hw (.un b u f))))], ce⟩) := fun hc h => by
      have e : txD (.un b u f) = .str (mkS [u.c] ++ mkS (tl f)) := by
        rw [mkS_app]
        rfl
      rw [e]
      rw [hc] at h
      exact zv_bind h (zv_bind (inn (i := 0) (d := .str (mkS (tl f))) rfl) (zv_addS zv_seeD zv_seeD (sz_of (by rw [mkS_len, mkS_len]; simp only [List.length_cons, List.length_nil]; omega))))
    cases u with
    | not =>
      refine key (zk_seq e0 (zk_nx (zk_seq (zk_ifF (tst (k := false) (eL rfl)) rfl zk_nil) (zk_nx (zk_seq (zk_ifF (tst (k := false) (eA rfl)) rfl zk_nil) (zk_nx (zk_seq (zk_ifT (tin (k := true) rfl) rfl (zk_ret (tail (c := "~") (by decide +kernel) (zv_ixD (zv_var rfl) rfl)))) zk_rt)))))))
    | box =>
      refine key (zk_seq e0 (zk_nx (zk_seq (zk_ifF (tst (k := false) (eL rfl)) rfl zk_nil) (zk_nx (zk_seq (zk_ifF (tst (k := false) (eA rfl)) rfl zk_nil) (zk_nx (zk_seq (zk_ifT (tin (k := true) rfl) rfl (zk_ret (tail (c := "#") (by decide +kernel) (zv_ixD (zv_var rfl) rfl)))) zk_rt)))))))
  | bi b o f g =>
    have hb2 : (tl f).length ≤ 30000 := by
      have := tl_len hw0.1
      have : (pre (.bi b o f g)).length = (pre f ++ pre g).length + 1 := rfl
      rw [List.length_append] at this
      omega
    have hb3 : (tl g).length ≤ 30000 := by
      have := tl_len hw0.2
      have : (pre (.bi b o f g)).length = (pre f ++ pre g).length + 1 := rfl
      rw [List.length_append] at this
      omega
    have p1 : (("(" : Str)) = mkS [40] := by decide +kernel
    have p2 : ((")" : Str)) = mkS [41] := by decide +kernel
    have tail : ∀ {c : Str}, c = mkS o.m → ixDM k_BETWEEN (vM 2) ⟨[some (.d (dt (.bi b o f g))), some (.d (.lst (inner (.bi b o f g)))), some (.d (.str (hw (.bi b o f g))))], ce⟩ = some (.d (.str c), ⟨[some (.d (dt (.bi b o f g))), some (.d (.lst (inner (.bi b o f g)))), some (.d (.str (hw (.bi b o f g))))], ce⟩) →
        jsM [(retM (.d (.str "("))), (fmtM (Hk.bindM (vM 1) fun x => Hk.bindM (retM (.d (.int 0))) (ixF x))), (fmtM (ixDM k_BETWEEN (vM 2))), (fmtM (Hk.bindM (vM 1) fun x => Hk.bindM (retM (.d (.int 1))) (ixF x))), (retM (.d (.str ")")))] Str.empty ⟨[some (.d (dt (.bi b o f g))), some (.d (.lst (inner (.bi b o f g)))), some (.d (.str (hw (.bi b o f g))))], ce⟩ = some (.d (txD (.bi b o f g)), ⟨[some (.d (dt (.bi b o f g))), some (.d (.lst (inner (.bi b o f g)))), some (.d (.str (hw (.bi b o f g))))], ce⟩) := fun hc h => by
      rw [hc] at h
      have lm : (mkS o.m).length = 3 := by rw [mkS_len]; rfl
      have e : txD (.bi b o f g) = .str (mkS ([40] ++ tl f ++ o.m ++ tl g ++ [41])) := by
        show Dt.str (mkS (40 :: (tl f ++ o.m ++ tl g ++ [41]))) = _
        simp
      rw [e, p1, p2]
      refine zv_js zv_ret (by rw [empty_app, mkS_len]; simp only [List.length_cons, List.length_nil]; omega) ?_
      rw [empty_app]
      refine zv_js (zv_fmt (inn (i := 0) (d := .str (mkS (tl f))) rfl) (by rw [mkS_len]; omega)) (by rw [mkS_app, mkS_len, List.length_append]; simp only [List.length_cons, List.length_nil]; omega) ?_
      rw [mkS_app]
      refine zv_js (zv_fmt h (by omega)) (by rw [mkS_app, mkS_len, List.length_append, List.length_append]; simp only [List.length_cons, List.length_nil, Bi.m]; omega) ?_
      rw [mkS_app]
      refine zv_js (zv_fmt (inn (i := 1) (d := .str (mkS (tl g))) rfl) (by rw [mkS_len]; omega)) (by rw [mkS_app, mkS_len, List.length_append, List.length_append, List.length_append]; simp only [List.length_cons, List.length_nil, Bi.m]; omega) ?_
      rw [mkS_app]
      refine zv_js zv_ret (by rw [mkS_app, mkS_len, List.length_append, List.length_append, List.length_append, List.length_append]; simp only [List.length_cons, List.length_nil, Bi.m]; omega) ?_
      rw [mkS_app]
      exact zv_js0
    cases o with
    | and => exact key (zk_seq e0 (zk_nx (zk_seq (zk_ifF (tst (k := false) (eL rfl)) rfl zk_nil) (zk_nx (zk_seq (zk_ifF (tst (k := false) (eA rfl)) rfl zk_nil) (zk_nx (zk_seq (zk_ifF (tin (k := false) rfl) rfl zk_nil) (zk_nx (zk_seq (zk_ifT (tin (k := true) rfl) rfl (zk_ret (tail (c := " & ") (by decide +kernel) (zv_ixD (zv_var rfl) rfl)))) zk_rt)))))))))
    | or => exact key (zk_seq e0 (zk_nx (zk_seq (zk_ifF (tst (k := false) (eL rfl)) rfl zk_nil) (zk_nx (zk_seq (zk_ifF (tst (k := false) (eA rfl)) rfl zk_nil) (zk_nx (zk_seq (zk_ifF (tin (k := false) rfl) rfl zk_nil) (zk_nx (zk_seq (zk_ifT (tin (k := true) rfl) rfl (zk_ret (tail (c := " | ") (by decide +kernel) (zv_ixD (zv_var rfl) rfl)))) zk_rt)))))))))
    | iff => exact key (zk_seq e0 (zk_nx (zk_seq (zk_ifF (tst (k := false) (eL rfl)) rfl zk_nil) (zk_nx (zk_seq (zk_ifF (tst (k := false) (eA rfl)) rfl zk_nil) (zk_nx (zk_seq (zk_ifF (tin (k := false) rfl) rfl zk_nil) (zk_nx (zk_seq (zk_ifT (tin (k := true) rfl) rfl (zk_ret (tail (c := " > ") (by decide +kernel) (zv_ixD (zv_var rfl) rfl)))) zk_rt)))))))))
/-! ### texts_of -/
def txC : M Vl := compM [6] (rng1M (consM (ixDM k_FORMS_IN (Hk.bindM (vM 3) fun x => Hk.bindM (retM (.d (.int 0))) (ixF x))) (retM []))) (nameG 6) (retM true) (bmM "list" (vM 2) (retM []) popF)
def txB : En → Option Rs := (seqS (setS 4 txC)
    (seqS (setS 5 (callM TW (consM (fzV (vM 3)) (consM (fzV (vM 4)) (retM [])))))
    (seqS (dropS (bmM "list" (vM 2) (consM (vM 5) (retM [])) appF))
    (dropS (bmM "list" (vM 1) (consM (vM 5) (retM [])) appF)))))
theorem tx_is : m_texts_of TW = (seqS (setS 1 (lstM (retM [])))
    (seqS (setS 2 (lstM (retM [])))
    (seqS (forS (itemsM (revM (vM 0))) (nameG 3) txB)
    (retS (revM (vM 1)))))) := rfl
def tsl (n : Nat) (d0 : Dt) (j3 j4 j5 j6 : Option Vl) : List (Option Vl) := [some (.d d0), some (.c (n + 0)), some (.c (n + 1)), j3, j4, j5, j6]
def tst (ce : List Ce) (S M : List Dt) (D : List Ce) : List Ce := ce ++ (.lst S :: .lst M :: D)
theorem tst_len {ce : List Ce} {S M : List Dt} {D : List Ce} : (tst ce S M D).length = ce.length + (D.length + 2) := by
  show (ce ++ (.lst S :: .lst M :: D)).length = _
  rw [List.length_append]
  rfl
theorem tst_new {ce : List Ce} {S M : List Dt} {D : List Ce} {c : Ce} : tst ce S M D ++ [c] = tst ce S M (D ++ [c]) := by
  show (ce ++ (.lst S :: .lst M :: D)) ++ [c] = _
  rw [List.append_assoc]
  rfl
theorem tst_get {ce : List Ce} {S M : List Dt} {D : List Ce} {c : Ce} : (tst ce S M (D ++ [c]))[ce.length + (D.length + 2)]? = some c := by
  refine get_L ?_
  show (D ++ [c])[D.length]? = some c
  exact get_new D c
theorem tst_set {ce : List Ce} {S M : List Dt} {D : List Ce} {c c' : Ce} : (tst ce S M (D ++ [c])).set (ce.length + (D.length + 2)) c' = tst ce S M (D ++ [c']) := by
  show (ce ++ _).set _ _ = _
  rw [set_L]
  show ce ++ (.lst S :: .lst M :: (D ++ [c]).set D.length c') = _
  rw [set_new]
  rfl
theorem tsl_map {n k : Nat} {d0 d3 : Dt} {j5 : Option Vl} {d : Dt} (h0 : n + 0 ≠ k) (h1 : n + 1 ≠ k) : (tsl n d0 (some (.d d3)) (some (.c k)) j5 none).map (Option.map (frzV k d)) = tsl n d0 (some (.d d3)) (some (.d d)) (j5.map (frzV k d)) none := by
  show [some (Vl.d d0), some (if n + 0 = k then _ else .c (n + 0)), some (if n + 1 = k then _ else .c (n + 1)), some (Vl.d d3), some (if k = k then _ else _), _, none] = _
  rw [if_neg h0, if_neg h1, if_pos rfl]
  rfl
theorem pops {ce : List Ce} {S : List Dt} {D : List Ce} {d0 : Dt} {j3 j4 j5 : Option Vl} : ∀ (T : List Dt) (ds : List Dt) (M acc : List Dt) (j6 : Option Vl), T.length = ds.length → acc.length + T.length ≤ 1000 →
    ∃ k6, compL [6] (ce.length + (D.length + 2)) (nameG 6) (retM true) (bmM "list" (vM 2) (retM []) popF) ds ⟨tsl ce.length d0 j3 j4 j5 j6, tst ce S (M ++ T.reverse) (D ++ [.lst acc])⟩ = some ⟨tsl ce.length d0 j3 j4 j5 k6, tst ce S M (D ++ [.lst (acc ++ T)])⟩
  | [], ds, M, acc, j6, hl, ha => by
    cases ds with
    | cons d ds => cases hl
    | nil =>
      refine ⟨j6, ?_⟩
      simp [compL]
  | t :: T, ds, M, acc, j6, hl, ha => by
    cases ds with
    | nil => cases hl
    | cons d ds =>
      simp only [List.length_cons] at hl ha
      have hM : M ++ (t :: T).reverse = (M ++ T.reverse) ++ [t] := by simp
      have hm : (bmM "list" (vM 2) (retM []) popF) ⟨tsl ce.length d0 j3 j4 j5 (some (.d d)), tst ce S (M ++ (t :: T).reverse) (D ++ [.lst acc])⟩ = some (.d t, ⟨tsl ce.length d0 j3 j4 j5 (some (.d d)), tst ce S (M ++ T.reverse) (D ++ [.lst acc])⟩) := by
        rw [hM]
        exact zv_popL (i := 1) (zv_var rfl) rfl rfl
      have ht : turnC [6] (ce.length + (D.length + 2)) (nameG 6) (retM true) (bmM "list" (vM 2) (retM []) popF) d ⟨tsl ce.length d0 j3 j4 j5 j6, tst ce S (M ++ (t :: T).reverse) (D ++ [.lst acc])⟩ = some ⟨tsl ce.length d0 j3 j4 j5 (some (.d d)), tst ce S (M ++ T.reverse) (D ++ [.lst (acc ++ [t])])⟩ := by
        rw [zt_yes (E1 := ⟨tsl ce.length d0 j3 j4 j5 (some (.d d)), tst ce S (M ++ (t :: T).reverse) (D ++ [.lst acc])⟩) rfl rfl hm zv_fzD tst_get (by omega), tst_set]
      obtain ⟨k6, e⟩ := pops (ce := ce) (S := S) (D := D) (d0 := d0) (j3 := j3) (j4 := j4) (j5 := j5) T ds M (acc ++ [t]) (some (.d d)) (by omega) (by simp; omega)
      refine ⟨k6, ?_⟩
      rw [List.append_assoc acc] at e
      rw [compL_cons, ht]
      exact e
theorem txC_ok {f : Fm} {ce : List Ce} {S M : List Dt} {D : List Ce} {d0 : Dt} {j4 j5 : Option Vl} : txC ⟨tsl ce.length d0 (some (.d (dt f))) j4 j5 none, tst ce S (M ++ (inner f).reverse) D⟩ = some (.c (ce.length + (D.length + 2)), ⟨tsl ce.length d0 (some (.d (dt f))) j4 j5 none, tst ce S M (D ++ [.lst (inner f)])⟩) := by
  have hn : look2 (hw f) k_FORMS_IN = some (.int ((inner f).length : Nat)) := by
    cases f with
    | un b u f => cases u <;> rfl
    | bi b o f g => cases o <;> rfl
    | _ => rfl
  have e0 : (Hk.bindM (vM 3) fun x => Hk.bindM (retM (.d (.int 0))) (ixF x)) ⟨tsl ce.length d0 (some (.d (dt f))) j4 j5 none, tst ce S (M ++ (inner f).reverse) D⟩ = some (.d (.str (hw f)), ⟨tsl ce.length d0 (some (.d (dt f))) j4 j5 none, tst ce S (M ++ (inner f).reverse) D⟩) := zv_bind (zv_var rfl) (zv_bind zv_ret (zv_ix zv_seeD zv_seeD (dt0 f)))
  have hlen : (inner f).length ≤ 2 := by cases f <;> simp [inner]
  have e1 : rng1M (consM (ixDM k_FORMS_IN (Hk.bindM (vM 3) fun x => Hk.bindM (retM (.d (.int 0))) (ixF x))) (retM [])) ⟨tsl ce.length d0 (some (.d (dt f))) j4 j5 none, tst ce S (M ++ (inner f).reverse) D⟩ = some (rngL 0 (inner f).length, ⟨tsl ce.length d0 (some (.d (dt f))) j4 j5 none, tst ce S (M ++ (inner f).reverse) D⟩) := by
    rw [zv_rng1 (zv_cons (zv_ixD e0 hn) zv_ret) (by omega), Int.toNat_natCast]
  obtain ⟨k6, e2⟩ := pops (ce := ce) (S := S) (D := D) (d0 := d0) (j3 := some (.d (dt f))) (j4 := j4) (j5 := j5) (inner f) (rngL 0 (inner f).length) M [] none (by rw [rng_len]) (by simp; omega)
  rw [List.nil_append, ← tst_new, ← tst_len (S := S) (M := M ++ (inner f).reverse) (D := D)] at e2
  have e3 := zv_comp e1 e2
  rw [tst_len] at e3
  exact e3
theorem tx_turn {f : Fm} (hw0 : Ws f) (hl : (pre f).length ≤ 1000) {ce : List Ce} {S M : List Dt} {D : List Ce} {d0 : Dt} {j4 j5 : Option Vl} (hS : S.length < 100000) (hM : M.length < 100000) :
    txB ⟨tsl ce.length d0 (some (.d (dt f))) j4 j5 none, tst ce S (M ++ (inner f).reverse) D⟩ = some (.nx ⟨tsl ce.length d0 (some (.d (dt f))) (some (.d (.lst (inner f)))) (some (.d (txD f))) none, tst ce (S ++ [txD f]) (M ++ [txD f]) (D ++ [.dead])⟩) := by
  have a1 := zk_set (i := 4) (txC_ok (f := f) (ce := ce) (S := S) (M := M) (D := D) (d0 := d0) (j4 := j4) (j5 := j5))
  have a2 : fzV (vM 4) ⟨tsl ce.length d0 (some (.d (dt f))) (some (.c (ce.length + (D.length + 2)))) j5 none, tst ce S M (D ++ [.lst (inner f)])⟩ = some (.d (.lst (inner f)), ⟨tsl ce.length d0 (some (.d (dt f))) (some (.d (.lst (inner f)))) (j5.map (frzV (ce.length + (D.length + 2)) (.lst (inner f)))) none, tst ce S M (D ++ [.dead])⟩) := by
    have h := zv_fzC (sl := tsl ce.length d0 (some (.d (dt f))) (some (.c (ce.length + (D.length + 2)))) j5 none) (tst_get (ce := ce) (S := S) (M := M) (D := D) (c := .lst (inner f)))
    rw [tst_set, tsl_map (by omega) (by omega)] at h
    exact zv_fzV (x := .c (ce.length + (D.length + 2))) (zv_var rfl) h
  have a3 : callM TW (consM (fzV (vM 3)) (consM (fzV (vM 4)) (retM []))) ⟨tsl ce.length d0 (some (.d (dt f))) (some (.c (ce.length + (D.length + 2)))) j5 none, tst ce S M (D ++ [.lst (inner f)])⟩ = some (.d (txD f), ⟨tsl ce.length d0 (some (.d (dt f))) (some (.d (.lst (inner f)))) (j5.map (frzV (ce.length + (D.length + 2)) (.lst (inner f)))) none, tst ce S M (D ++ [.dead])⟩) :=
    zv_call (zv_cons (zv_fzV (zv_var rfl) zv_fzD) (zv_cons a2 zv_ret)) (tw_ok hw0 hl _)
  have a4 := zk_set (i := 5) a3
  have a5 : dropS (bmM "list" (vM 2) (consM (vM 5) (retM [])) appF) ⟨tsl ce.length d0 (some (.d (dt f))) (some (.d (.lst (inner f)))) (some (.d (txD f))) none, tst ce S M (D ++ [.dead])⟩ = some (.nx ⟨tsl ce.length d0 (some (.d (dt f))) (some (.d (.lst (inner f)))) (some (.d (txD f))) none, tst ce S (M ++ [txD f]) (D ++ [.dead])⟩) :=
    zk_drop (zv_appL (i := 1) (zv_var rfl) (zv_cons (zv_var rfl) zv_ret) rfl hM rfl)
  have a6 : dropS (bmM "list" (vM 1) (consM (vM 5) (retM [])) appF) ⟨tsl ce.length d0 (some (.d (dt f))) (some (.d (.lst (inner f)))) (some (.d (txD f))) none, tst ce S (M ++ [txD f]) (D ++ [.dead])⟩ = some (.nx ⟨tsl ce.length d0 (some (.d (dt f))) (some (.d (.lst (inner f)))) (some (.d (txD f))) none, tst ce (S ++ [txD f]) (M ++ [txD f]) (D ++ [.dead])⟩) :=
    zk_drop (zv_appL (i := 0) (zv_var rfl) (zv_cons (zv_var rfl) zv_ret) rfl hS rfl)
  exact zk_seq a1 (zk_nx (zk_seq a4 (zk_nx (zk_seq a5 (zk_nx a6)))))
def deads (n : Nat) : List Ce := List.replicate n .dead
theorem tx_loop (ce : List Ce) (d0 : Dt) : ∀ (f : Fm) (S M : List Dt) (D : List Ce) (j3 j4 j5 : Option Vl), Ws f → (pre f).length ≤ 1000 → S.length + (pre f).length ≤ 99990 → M.length + (pre f).length ≤ 99990 →
    ∃ k3 k4 k5, ∀ (rest : List Dt) (R : Rs), forL (nameG 3) txB rest ⟨tsl ce.length d0 k3 k4 k5 none, tst ce (S ++ ((pre f).map txD).reverse) (M ++ [txD f]) (D ++ deads (pre f).length)⟩ = some R →
      forL (nameG 3) txB (((pre f).map dt).reverse ++ rest) ⟨tsl ce.length d0 j3 j4 j5 none, tst ce S M D⟩ = some R := by
  have one : ∀ (f : Fm) (S M : List Dt) (D : List Ce) (j3 j4 j5 : Option Vl), Ws f → (pre f).length ≤ 1000 → S.length < 100000 → M.length < 100000 → ∃ k4 k5, ∀ (rest : List Dt) (R : Rs), forL (nameG 3) txB rest ⟨tsl ce.length d0 (some (.d (dt f))) k4 k5 none, tst ce (S ++ [txD f]) (M ++ [txD f]) (D ++ [.dead])⟩ = some R →
      forL (nameG 3) txB (dt f :: rest) ⟨tsl ce.length d0 j3 j4 j5 none, tst ce S (M ++ (inner f).reverse) D⟩ = some R := fun f S M D j3 j4 j5 hw hl h1 h2 => ⟨_, _, fun rest R h => fl_cons zg_name (tx_turn hw hl h1 h2) h⟩
  have leaf : ∀ (f : Fm) (S M : List Dt) (D : List Ce) (j3 j4 j5 : Option Vl), pre f = [f] → inner f = [] → Ws f → (pre f).length ≤ 1000 → S.length + (pre f).length ≤ 99990 → M.length + (pre f).length ≤ 99990 → ∃ k3 k4 k5, ∀ (rest : List Dt) (R : Rs), forL (nameG 3) txB rest ⟨tsl ce.length d0 k3 k4 k5 none, tst ce (S ++ ((pre f).map txD).reverse) (M ++ [txD f]) (D ++ deads (pre f).length)⟩ = some R →
      forL (nameG 3) txB (((pre f).map dt).reverse ++ rest) ⟨tsl ce.length d0 j3 j4 j5 none, tst ce S M D⟩ = some R := fun f S M D j3 j4 j5 hp hu hw hl h1 h2 => by
    obtain ⟨k4, k5, e⟩ := one f S M D j3 j4 j5 hw hl (by omega) (by omega)
    rw [hu, List.reverse_nil, List.append_nil] at e
    rw [hp]
    exact ⟨some (.d (dt f)), k4, k5, fun rest R h => e rest R h⟩
  have dd : ∀ a b : Nat, deads a ++ deads b = deads (a + b) := fun a b => by
    unfold deads
    rw [List.replicate_append_replicate]
  intro f
  induction f with
  | yes b => intro S M D j3 j4 j5; exact leaf _ S M D j3 j4 j5 rfl rfl
  | no b => intro S M D j3 j4 j5; exact leaf _ S M D j3 j4 j5 rfl rfl
  | letter b s => intro S M D j3 j4 j5; exact leaf _ S M D j3 j4 j5 rfl rfl
  | act b s t => intro S M D j3 j4 j5; exact leaf _ S M D j3 j4 j5 rfl rfl
  | un b u f ih =>
    intro S M D j3 j4 j5 hw hl h1 h2
    have hp : (pre (.un b u f)).length = (pre f).length + 1 := rfl
    obtain ⟨k3, k4, k5, e1⟩ := ih S M D j3 j4 j5 hw (by omega) (by omega) (by omega)
    obtain ⟨l4, l5, e2⟩ := one (.un b u f) (S ++ ((pre f).map txD).reverse) M (D ++ deads (pre f).length) k3 k4 k5 hw hl (by simp; omega) (by omega)
    refine ⟨some (.d (dt (.un b u f))), l4, l5, fun rest R h => ?_⟩
    have er : ((pre (.un b u f)).map dt).reverse ++ rest = ((pre f).map dt).reverse ++ (dt (.un b u f) :: rest) := by
      show (dt (.un b u f) :: (pre f).map dt).reverse ++ rest = _
      rw [List.reverse_cons, List.append_assoc]
      rfl
    rw [er]
    refine e1 _ R (e2 rest R ?_)
    have es : S ++ ((pre (.un b u f)).map txD).reverse = S ++ ((pre f).map txD).reverse ++ [txD (.un b u f)] := by
      show S ++ (txD (.un b u f) :: (pre f).map txD).reverse = _
      rw [List.reverse_cons, List.append_assoc]
    have ed : D ++ deads (pre (.un b u f)).length = D ++ deads (pre f).length ++ [.dead] := by
      rw [hp, ← dd, List.append_assoc]
      rfl
    rw [es, ed] at h
    exact h
  | bi b o f g ihf ihg =>
    intro S M D j3 j4 j5 hw hl h1 h2
    have hp : (pre (.bi b o f g)).length = (pre f).length + (pre g).length + 1 := by
      show (pre f ++ pre g).length + 1 = _
      rw [List.length_append]
    obtain ⟨k3, k4, k5, e1⟩ := ihg S M D j3 j4 j5 hw.2 (by omega) (by omega) (by omega)
    obtain ⟨l3, l4, l5, e2⟩ := ihf (S ++ ((pre g).map txD).reverse) (M ++ [txD g]) (D ++ deads (pre g).length) k3 k4 k5 hw.1 (by omega) (by simp; omega) (by simp; omega)
    obtain ⟨m4, m5, e3⟩ := one (.bi b o f g) (S ++ ((pre g).map txD).reverse ++ ((pre f).map txD).reverse) M (D ++ deads (pre g).length ++ deads (pre f).length) l3 l4 l5 hw hl (by simp; omega) (by omega)
    refine ⟨some (.d (dt (.bi b o f g))), m4, m5, fun rest R h => ?_⟩
    have er : ((pre (.bi b o f g)).map dt).reverse ++ rest = ((pre g).map dt).reverse ++ (((pre f).map dt).reverse ++ (dt (.bi b o f g) :: rest)) := by
      show (dt (.bi b o f g) :: (pre f ++ pre g).map dt).reverse ++ rest = _
      rw [List.reverse_cons, List.map_append, List.reverse_append]
      simp
    rw [er]
    refine e1 _ R (e2 _ R ?_)
    have em : M ++ [txD g] ++ [txD f] = M ++ (inner (.bi b o f g)).reverse := by
      rw [List.append_assoc]
      rfl
    rw [em]
    refine e3 rest R ?_
    have es : S ++ ((pre (.bi b o f g)).map txD).reverse = S ++ ((pre g).map txD).reverse ++ ((pre f).map txD).reverse ++ [txD (.bi b o f g)] := by
      show S ++ (txD (.bi b o f g) :: (pre f ++ pre g).map txD).reverse = _
      rw [List.reverse_cons, List.map_append, List.reverse_append]
      simp
    have ed : D ++ deads (pre (.bi b o f g)).length = D ++ deads (pre g).length ++ deads (pre f).length ++ [.dead] := by
      rw [hp, List.append_assoc, List.append_assoc, show [Ce.dead] = deads 1 from rfl, dd, dd]
      congr 2
      omega
    rw [es, ed] at h
    exact h
abbrev TEXTS : Fn := f_texts_of TW
theorem texts_ok {f : Fm} (hw : Ws f) (hl : (pre f).length ≤ 1000) (ce : List Ce) : TEXTS [.d (.lst ((pre f).map dt))] ce = some (.c ce.length, ce ++ [.lst ((pre f).map txD)]) := by
  obtain ⟨k3, k4, k5, e⟩ := tx_loop ce (.lst ((pre f).map dt)) f [] [] [.dead] none none none hw hl (by simp; omega) (by simp; omega)
  have e := e [] _ rfl
  rw [List.append_nil, List.nil_append, List.nil_append] at e
  have e0 : m_texts_of TW ⟨[some (.d (.lst ((pre f).map dt))), none, none, none, none, none, none], ce⟩ = some (.rt (.c (ce.length + ((pre f).length + 3))) ⟨tsl ce.length (.lst ((pre f).map dt)) k3 k4 k5 none, tst ce ((pre f).map txD).reverse [txD f] ([.dead] ++ deads (pre f).length ++ [.lst ((pre f).map txD)])⟩) := by
    rw [tx_is]
    have a1 : setS 1 (lstM (retM [])) ⟨[some (.d (.lst ((pre f).map dt))), none, none, none, none, none, none], ce⟩ = some (.nx ⟨[some (.d (.lst ((pre f).map dt))), some (.c (ce.length + 0)), none, none, none, none, none], ce ++ [.lst []]⟩) := zk_set (zv_lst zv_ret (by show 0 ≤ 100000; decide) zv_fzA0 zv_newL)
    have a2 : setS 2 (lstM (retM [])) ⟨[some (.d (.lst ((pre f).map dt))), some (.c (ce.length + 0)), none, none, none, none, none], ce ++ [.lst []]⟩ = some (.nx ⟨tsl ce.length (.lst ((pre f).map dt)) none none none none, tst ce [] [] []⟩) := by
      rw [zk_set (zv_lst zv_ret (by show 0 ≤ 100000; decide) zv_fzA0 zv_newL)]
      simp [tsl, tst]
    have a3 : itemsM (revM (vM 0)) ⟨tsl ce.length (.lst ((pre f).map dt)) none none none none, tst ce [] [] []⟩ = some (((pre f).map dt).reverse, ⟨tsl ce.length (.lst ((pre f).map dt)) none none none none, tst ce [] [] [.dead]⟩) := by
      have h3 : revM (vM 0) ⟨tsl ce.length (.lst ((pre f).map dt)) none none none none, tst ce [] [] []⟩ = some (.c (ce.length + 2), ⟨tsl ce.length (.lst ((pre f).map dt)) none none none none, tst ce [] [] ([] ++ [.lst ((pre f).map dt).reverse])⟩) := by
        rw [zv_rev (zv_var rfl) zv_seeD, tst_new, tst_len]
        rfl
      have h4 := zv_fzC (sl := tsl ce.length (.lst ((pre f).map dt)) none none none none) (tst_get (ce := ce) (S := []) (M := []) (D := []) (c := .lst ((pre f).map dt).reverse))
      rw [tst_set] at h4
      have h5 : (tsl ce.length (.lst ((pre f).map dt)) none none none none).map (Option.map (frzV (ce.length + ((([] : List Ce).length) + 2)) (.lst ((pre f).map dt).reverse))) = tsl ce.length (.lst ((pre f).map dt)) none none none none := by
        have n1 : ¬ (ce.length + 0 = ce.length + 2) := by omega
        have n2 : ¬ (ce.length + 1 = ce.length + 2) := by omega
        show [some (Vl.d _), some (if ce.length + 0 = ce.length + 2 then _ else .c (ce.length + 0)), some (if ce.length + 1 = ce.length + 2 then _ else .c (ce.length + 1)), none, none, none, none] = _
        rw [if_neg n1, if_neg n2]
        rfl
      rw [h5] at h4
      exact zv_items h3 h4 rfl
    have a4 : retS (revM (vM 1)) ⟨tsl ce.length (.lst ((pre f).map dt)) k3 k4 k5 none, tst ce ((pre f).map txD).reverse [txD f] ([.dead] ++ deads (pre f).length)⟩ = some (.rt (.c (ce.length + ((pre f).length + 3))) ⟨tsl ce.length (.lst ((pre f).map dt)) k3 k4 k5 none, tst ce ((pre f).map txD).reverse [txD f] ([.dead] ++ deads (pre f).length ++ [.lst ((pre f).map txD)])⟩) := by
      have h := zv_rev (sl := tsl ce.length (.lst ((pre f).map dt)) k3 k4 k5 none) (ce := tst ce ((pre f).map txD).reverse [txD f] ([.dead] ++ deads (pre f).length)) (m := vM 1) (zv_var rfl) (zv_seeC (get_L (i := 0) rfl))
      rw [tst_new, tst_len] at h
      rw [zk_ret h]
      simp [deads]
    exact zk_seq a1 (zk_nx (zk_seq a2 (zk_nx (zk_seq (zk_for a3 e) (zk_nx a4)))))
  refine zf_rt e0 ?_
  show (if ce.length + ((pre f).length + 3) < ce.length then _ else _) = _
  rw [if_neg (by omega)]
  have hg : (tst ce ((pre f).map txD).reverse [txD f] ([.dead] ++ deads (pre f).length ++ [.lst ((pre f).map txD)]))[ce.length + ((pre f).length + 3)]? = some (.lst ((pre f).map txD)) := by
    have h := tst_get (ce := ce) (S := ((pre f).map txD).reverse) (M := [txD f]) (D := [.dead] ++ deads (pre f).length) (c := .lst ((pre f).map txD))
    have hl : ([Ce.dead] ++ deads (pre f).length).length + 2 = (pre f).length + 3 := by
      simp [deads]
    rw [hl] at h
    exact h
  show (match (tst ce ((pre f).map txD).reverse [txD f] ([Ce.dead] ++ deads (pre f).length ++ [Ce.lst ((pre f).map txD)]))[ce.length + ((pre f).length + 3)]? with
    | some c => some (Vl.c ce.length, (tst ce ((pre f).map txD).reverse [txD f] ([Ce.dead] ++ deads (pre f).length ++ [Ce.lst ((pre f).map txD)])).take ce.length ++ [c])
    | none => none) = _
  rw [hg]
  show some (Vl.c ce.length, (ce ++ _).take ce.length ++ _) = _
  rw [List.take_left]
/-- saying.text() -/
abbrev TEXT : Fn := f_Saying_text TEXTS
theorem text_ok {ce : List Ce} {x : Vl} {f : Fm} (hs : Say ce x f) (hw : Ws f) (hl : (pre f).length ≤ 1000) : TEXT [x] ce = some (.d (txD f), ce) := by
  have h1 : fzV (fldM "Saying" "_signs" (vM 0)) ⟨[some x], ce⟩ = some (.d (.lst ((pre f).map dt)), ⟨[some x], ce⟩) := zv_fzV (zv_fld (zv_var rfl) hs (d := sgn f) rfl) zv_fzD
  have h2 := texts_ok hw hl ce
  have h3 : callM TEXTS (consM (fzV (fldM "Saying" "_signs" (vM 0))) (retM [])) ⟨[some x], ce⟩ = some (.c ce.length, ⟨[some x], ce ++ [.lst ((pre f).map txD)]⟩) := zv_call (G := TEXTS) (zv_cons h1 zv_ret) h2
  have h4 : ixD (.lst ((pre f).map txD)) (.int 0) = some (txD f) := by
    show atI ((pre f).map txD) ((0 : Nat) : Int) = some (txD f)
    exact atI_nat (by cases f <;> rfl)
  refine zf_rt (nl := 0) (m := m_Saying_text TEXTS) (E := ⟨[some x], ce ++ [.lst ((pre f).map txD)]⟩) (r := .d (txD f)) (zk_ret (zv_bind h3 (zv_bind zv_ret (zv_ix (zv_seeC (get_new _ _)) zv_seeD h4)))) (trim_d ?_)
  exact List.take_left
/-! ### the law's own texts -/
theorem zv_dsp {n : Nat} {ps : List (M Vl × M Vl)} {sl : List (Option Vl)} {ce : List Ce} {xs : List (Vl × Vl)} {E1 : En} {ks : List Key} {ds : List Dt} (h1 : prsM ps ⟨sl, ce ++ [.dic [] []]⟩ = some (xs, E1)) (h2 : keysV xs = some ks) (h3 : fzA (xs.map (·.2)) E1 = some (ds, ⟨sl, ce ++ [.dic [] []]⟩)) :
    dspM n ps ⟨sl, ce⟩ = some (.c ce.length, ⟨sl, ce ++ [.dic (mrgN [] ks) (mrgD [] [] ks ds)]⟩) := by
  unfold dspM
  rw [h1]
  simp only [h2, h3, get_new, set_new]
theorem zv_dg {mo mi : M Vl} {E E1 E2 : En} {x y : Vl} {ks : List Key} {ds : List Dt} {k : Key} {d : Dt} (h : mo E = some (x, E1)) (g : mi E1 = some (y, E2)) (s : see E2.ce x = some (.dic ks ds)) (hk : keyV y = some k) (e : kGet k ks ds = some d) : dgM mo mi E = some (.d d, E2) := zv_bind h (zv_bind g (by
  show (match see E2.ce x, keyV y with
    | some (.dic ks ds), some k => (kGet k ks ds).map fun d => (Vl.d d, E2)
    | _, _ => none) = _
  rw [s, hk]
  show (kGet k ks ds).map _ = _
  rw [e]
  rfl))
abbrev LT : Nat → Fn := f__law_text
def ltD : M Vl := dgM (dspM 3 [((retM (.d (.str "and"))), (retM (.d (.str " & ")))), ((retM (.d (.str "or"))), (retM (.d (.str " | ")))), ((retM (.d (.str "if"))), (retM (.d (.str " > "))))]) (vM 1)
def ltU (F : Fn) : M Vl := Hk.bindM (ifM (Hk.bindM (Hk.bindM (vM 1) fun x => Hk.bindM (retM (.d (.str "not"))) (op2 eqF x)) boolM) (retM (.d (.str "~"))) (retM (.d (.str "#")))) fun x => Hk.bindM (callM F (consM (fzV (Hk.bindM (vM 0) fun x => Hk.bindM (retM (.d (.int 1))) (ixF x))) (retM []))) (addF x)
def ltB (F : Fn) : M Vl := Hk.bindM (Hk.bindM (Hk.bindM (Hk.bindM (retM (.d (.str "("))) fun x => Hk.bindM (callM F (consM (fzV (Hk.bindM (vM 0) fun x => Hk.bindM (retM (.d (.int 1))) (ixF x))) (retM []))) (addF x)) fun x => Hk.bindM (vM 2) (addF x)) fun x => Hk.bindM (callM F (consM (fzV (Hk.bindM (vM 0) fun x => Hk.bindM (retM (.d (.int 2))) (ixF x))) (retM []))) (addF x)) fun x => Hk.bindM (retM (.d (.str ")"))) (addF x)
def ltA : M Vl := Hk.bindM (Hk.bindM (Hk.bindM (vM 0) fun x => Hk.bindM (retM (.d (.int 1))) (ixF x)) fun x => Hk.bindM (retM (.d (.str "-"))) (addF x)) fun x => Hk.bindM (Hk.bindM (vM 0) fun x => Hk.bindM (retM (.d (.int 2))) (ixF x)) (addF x)
def inT2 : M Bool := Hk.bindM (Hk.bindM (vM 1) fun x => Hk.bindM (tupM (consM (retM (.d (.str "not"))) (consM (retM (.d (.str "box"))) (retM [])))) (op2 (inF false) x)) boolM
def inT3 : M Bool := Hk.bindM (Hk.bindM (vM 1) fun x => Hk.bindM (tupM (consM (retM (.d (.str "and"))) (consM (retM (.d (.str "or"))) (consM (retM (.d (.str "if"))) (retM []))))) (op2 (inF false) x)) boolM
theorem lt_is (F : Fn) : m__law_text F = (seqS (setS 1 (Hk.bindM (vM 0) fun x => Hk.bindM (retM (.d (.int 0))) (ixF x)))
    (seqS (ifS (Hk.bindM (Hk.bindM (vM 1) fun x => Hk.bindM (retM (.d (.str "letter"))) (op2 eqF x)) boolM) (retS (Hk.bindM (vM 0) fun x => Hk.bindM (retM (.d (.int 1))) (ixF x))) nilS)
    (seqS (ifS (Hk.bindM (Hk.bindM (vM 1) fun x => Hk.bindM (retM (.d (.str "act"))) (op2 eqF x)) boolM) (retS ltA) nilS)
    (seqS (ifS inT2 (retS (ltU F)) nilS)
    (seqS (ifS inT3 (seqS (setS 2 ltD) (retS (ltB F))) nilS)
    (retS (vM 1))))))) := rfl
def lsl (f : Fm) (j : Option Vl) : List (Option Vl) := [some (.d (dt f)), some (.d (.str (hw f))), j]
theorem zv_addSS {a b : List Nat} {E : En} {x y : Vl} (h1 : see E.ce x = some (.str (mkS a))) (h2 : see E.ce y = some (.str (mkS b))) (h : a.length + b.length ≤ 100000) : addF x y E = some (.d (.str (mkS (a ++ b))), E) := by
  rw [zv_addS h1 h2 (sz_of (by rw [mkS_len, mkS_len]; exact h)), mkS_app]
theorem lt_ok : ∀ (n : Nat) (f : Fm), Ws f → (pre f).length ≤ n → (pre f).length ≤ 1000 → ∀ ce : List Ce, LT n [.d (dt f)] ce = some (.d (txD f), ce)
  | 0, f, _, h, _ => by
    exfalso
    cases f <;> simp [pre] at h
  | n + 1, f, hw0, hn, hl => fun ce => by
    have key : ∀ {j : Option Vl} {D : List Ce}, m__law_text (LT n) ⟨[some (.d (dt f)), none, none], ce⟩ = some (.rt (.d (txD f)) ⟨lsl f j, ce ++ D⟩) → LT (n + 1) [.d (dt f)] ce = some (.d (txD f), ce) := fun e => zf_rt (nl := 2) (m := m__law_text (LT n)) e (trim_d List.take_left)
    have key0 : m__law_text (LT n) ⟨[some (.d (dt f)), none, none], ce⟩ = some (.rt (.d (txD f)) ⟨lsl f none, ce⟩) → LT (n + 1) [.d (dt f)] ce = some (.d (txD f), ce) := fun e => key (D := []) (by rw [List.append_nil]; exact e)
    rw [lt_is] at key key0
    have e00 : (Hk.bindM (vM 0) fun x => Hk.bindM (retM (.d (.int 0))) (ixF x)) ⟨[some (.d (dt f)), none, none], ce⟩ = some (.d (.str (hw f)), ⟨[some (.d (dt f)), none, none], ce⟩) := zv_bind (zv_var rfl) (zv_bind zv_ret (zv_ix zv_seeD zv_seeD (dt0 f)))
    have e0 : setS 1 (Hk.bindM (vM 0) fun x => Hk.bindM (retM (.d (.int 0))) (ixF x)) ⟨[some (.d (dt f)), none, none], ce⟩ = some (.nx ⟨lsl f none, ce⟩) := zk_set e00
    have tst : ∀ {w : Str} {k : Bool}, eqF (.str (hw f)) (.str w) = some (.bl k) → (Hk.bindM (Hk.bindM (vM 1) fun x => Hk.bindM (retM (.d (.str w))) (op2 eqF x)) boolM) ⟨lsl f none, ce⟩ = some (k, ⟨lsl f none, ce⟩) := fun h => zv_bind (zv_bind (zv_var rfl) (zv_bind zv_ret (zv_op2 zv_seeD zv_seeD h))) zv_bool
    have t2 : ∀ {k : Bool}, inF false (.str (hw f)) (.tup [.str "not", .str "box"]) = some (.bl k) → inT2 ⟨lsl f none, ce⟩ = some (k, ⟨lsl f none, ce⟩) := fun h => zv_bind (zv_bind (zv_var rfl) (zv_bind (zv_tup (zv_cons zv_ret (zv_cons zv_ret zv_ret)) (by show 2 ≤ 100000; decide) (zv_fzA1 zv_fzD (zv_fzA1 zv_fzD zv_fzA0))) (zv_op2 zv_seeD zv_seeD h))) zv_bool
    have t3 : ∀ {k : Bool}, inF false (.str (hw f)) (.tup [.str "and", .str "or", .str "if"]) = some (.bl k) → inT3 ⟨lsl f none, ce⟩ = some (k, ⟨lsl f none, ce⟩) := fun h => zv_bind (zv_bind (zv_var rfl) (zv_bind (zv_tup (zv_cons zv_ret (zv_cons zv_ret (zv_cons zv_ret zv_ret))) (by show 3 ≤ 100000; decide) (zv_fzA1 zv_fzD (zv_fzA1 zv_fzD (zv_fzA1 zv_fzD zv_fzA0)))) (zv_op2 zv_seeD zv_seeD h))) zv_bool
    have sub : ∀ {i : Int} {d : Dt} {j : Option Vl} {c2 : List Ce}, ixD (dt f) (.int i) = some d → (Hk.bindM (vM 0) fun x => Hk.bindM (retM (.d (.int i))) (ixF x)) ⟨lsl f j, c2⟩ = some (.d d, ⟨lsl f j, c2⟩) := fun h => zv_bind (zv_var rfl) (zv_bind zv_ret (zv_ix zv_seeD zv_seeD h))
    have yn : isL f = false → isA f = false → inF false (.str (hw f)) (.tup [.str "not", .str "box"]) = some (.bl false) → inF false (.str (hw f)) (.tup [.str "and", .str "or", .str "if"]) = some (.bl false) → txD f = .str (hw f) → LT (n + 1) [.d (dt f)] ce = some (.d (txD f), ce) := fun h1 h2 h3 h4 h5 => by
      refine key0 (zk_seq e0 (zk_nx (zk_seq (zk_ifF (tst (eL h1)) rfl zk_nil) (zk_nx (zk_seq (zk_ifF (tst (eA h2)) rfl zk_nil) (zk_nx (zk_seq (zk_ifF (t2 h3) rfl zk_nil) (zk_nx (zk_seq (zk_ifF (t3 h4) rfl zk_nil) (zk_nx (zk_ret ?_)))))))))))
      rw [h5]
      exact zv_var rfl
    cases f with
    | yes b => exact yn rfl rfl rfl rfl rfl
    | no b => exact yn rfl rfl rfl rfl rfl
    | letter b s =>
      refine key0 (zk_seq e0 (zk_nx (zk_seq (zk_ifT (tst (eL rfl)) rfl (zk_ret (sub ?_))) zk_rt)))
      show some (Dt.str s) = some (txD (.letter b s))
      rw [show txD (.letter b s) = .str (mkS (wd s)) from rfl, mkS_wd]
    | act b s t =>
      have h1 := hw0.1.2.1
      have h2 := hw0.2.2.1
      have hdash : (("-" : Str)) = mkS [45] := by decide +kernel
      have a1 : (Hk.bindM (vM 0) fun x => Hk.bindM (retM (.d (.int 1))) (ixF x)) ⟨lsl (.act b s t) none, ce⟩ = some (.d (.str (mkS (wd s))), ⟨lsl (.act b s t) none, ce⟩) := by
        rw [mkS_wd]
        exact sub rfl
      have a2 : (Hk.bindM (vM 0) fun x => Hk.bindM (retM (.d (.int 2))) (ixF x)) ⟨lsl (.act b s t) none, ce⟩ = some (.d (.str (mkS (wd t))), ⟨lsl (.act b s t) none, ce⟩) := by
        rw [mkS_wd]
        exact sub rfl
      have a3 : (Hk.bindM (Hk.bindM (vM 0) fun x => Hk.bindM (retM (.d (.int 1))) (ixF x)) fun x => Hk.bindM (retM (.d (.str "-"))) (addF x)) ⟨lsl (.act b s t) none, ce⟩ = some (.d (.str (mkS (wd s ++ [45]))), ⟨lsl (.act b s t) none, ce⟩) := by
        rw [hdash]
        exact zv_bind a1 (zv_bind zv_ret (zv_addSS zv_seeD zv_seeD (by rw [wd_len]; simp only [List.length_cons, List.length_nil]; omega)))
      have a4 : ltA ⟨lsl (.act b s t) none, ce⟩ = some (.d (txD (.act b s t)), ⟨lsl (.act b s t) none, ce⟩) :=
        zv_bind a3 (zv_bind a2 (zv_addSS zv_seeD zv_seeD (by rw [List.length_append, wd_len, wd_len]; simp only [List.length_cons, List.length_nil]; omega)))
      exact key0 (zk_seq e0 (zk_nx (zk_seq (zk_ifF (tst (eL rfl)) rfl zk_nil) (zk_nx (zk_seq (zk_ifT (tst (eA rfl)) rfl (zk_ret a4)) zk_rt)))))
    | un b u f =>
      have hp : (pre (.un b u f)).length = (pre f).length + 1 := rfl
      have ih := lt_ok n f hw0 (by omega) (by omega) ce
      have hb := tl_len (f := f) hw0
      have a1 : callM (LT n) (consM (fzV (Hk.bindM (vM 0) fun x => Hk.bindM (retM (.d (.int 1))) (ixF x))) (retM [])) ⟨lsl (.un b u f) none, ce⟩ = some (.d (.str (mkS (tl f))), ⟨lsl (.un b u f) none, ce⟩) := zv_call (G := LT n) (zv_cons (zv_fzV (sub (d := dt f) rfl) zv_fzD) zv_ret) ih
      have a2 : ifM (Hk.bindM (Hk.bindM (vM 1) fun x => Hk.bindM (retM (.d (.str "not"))) (op2 eqF x)) boolM) (retM (Vl.d (.str "~"))) (retM (Vl.d (.str "#"))) ⟨lsl (.un b u f) none, ce⟩ = some (.d (.str (mkS [u.c])), ⟨lsl (.un b u f) none, ce⟩) := by
        cases u with
        | not =>
          have e : mkS [Un.not.c] = "~" := by decide +kernel
          rw [e]
          exact zv_ifT (tst (k := true) (eqw (hw_ok _) (by decide +kernel) (by show decide (("not" : Str) = "not") = true; decide +kernel))) rfl zv_ret
        | box =>
          have e : mkS [Un.box.c] = "#" := by decide +kernel
          rw [e]
          exact zv_ifF (tst (k := false) (eqw (hw_ok _) (by decide +kernel) (by show decide (("box" : Str) = "not") = false; decide +kernel))) rfl zv_ret
      have a3 : ltU (LT n) ⟨lsl (.un b u f) none, ce⟩ = some (.d (txD (.un b u f)), ⟨lsl (.un b u f) none, ce⟩) :=
        zv_bind a2 (zv_bind a1 (zv_addSS zv_seeD zv_seeD (by simp only [List.length_cons, List.length_nil]; omega)))
      exact key0 (zk_seq e0 (zk_nx (zk_seq (zk_ifF (tst (eL rfl)) rfl zk_nil) (zk_nx (zk_seq (zk_ifF (tst (eA rfl)) rfl zk_nil) (zk_nx (zk_seq (zk_ifT (t2 (k := true) (by cases u <;> rfl)) rfl (zk_ret a3)) zk_rt)))))))
    | bi b o f g =>
      have hp : (pre (.bi b o f g)).length = (pre f).length + (pre g).length + 1 := by
        show (pre f ++ pre g).length + 1 = _
        rw [List.length_append]
      have hb := tl_len hw0.1
      have hb2 := tl_len hw0.2
      have h40 : (("(" : Str)) = mkS [40] := by decide +kernel
      have h41 : ((")" : Str)) = mkS [41] := by decide +kernel
      have d1 : ltD ⟨lsl (.bi b o f g) none, ce⟩ = some (.d (.str (mkS o.m)), ⟨lsl (.bi b o f g) none, ce ++ [.dic [.inr "and", .inr "or", .inr "if"] [.str " & ", .str " | ", .str " > "]]⟩) := by
        have e1 : dspM 3 [((retM (.d (.str "and"))), (retM (.d (.str " & ")))), ((retM (.d (.str "or"))), (retM (.d (.str " | ")))), ((retM (.d (.str "if"))), (retM (.d (.str " > "))))] ⟨lsl (.bi b o f g) none, ce⟩ = some (.c ce.length, ⟨lsl (.bi b o f g) none, ce ++ [.dic [.inr "and", .inr "or", .inr "if"] [.str " & ", .str " | ", .str " > "]]⟩) := by
          have m1 : mrgN [] [.inr "and", .inr "or", .inr "if"] = [.inr "and", .inr "or", .inr "if"] := by rfl
          have m2 : mrgD [] [] [.inr "and", .inr "or", .inr "if"] [.str " & ", .str " | ", .str " > "] = [.str " & ", .str " | ", .str " > "] := by rfl
          rw [zv_dsp (ks := [.inr "and", .inr "or", .inr "if"]) (ds := [.str " & ", .str " | ", .str " > "]) (xs := [(.d (.str "and"), .d (.str " & ")), (.d (.str "or"), .d (.str " | ")), (.d (.str "if"), .d (.str " > "))]) (E1 := ⟨lsl (.bi b o f g) none, ce ++ [.dic [] []]⟩) rfl rfl rfl, m1, m2]
        refine zv_dg (k := .inr o.s) e1 (zv_var rfl) (zv_seeX (get_new _ _) rfl) rfl ?_
        cases o with
        | and => rw [show mkS Bi.and.m = " & " by decide +kernel]; rfl
        | or => rw [show mkS Bi.or.m = " | " by decide +kernel]; rfl
        | iff => rw [show mkS Bi.iff.m = " > " by decide +kernel]; rfl
      generalize hX : ce ++ [Ce.dic [.inr "and", .inr "or", .inr "if"] [.str " & ", .str " | ", .str " > "]] = X at d1
      have ih1 := lt_ok n f hw0.1 (by omega) (by omega) X
      have ih2 := lt_ok n g hw0.2 (by omega) (by omega) X
      have a1 : callM (LT n) (consM (fzV (Hk.bindM (vM 0) fun x => Hk.bindM (retM (.d (.int 1))) (ixF x))) (retM [])) ⟨lsl (.bi b o f g) (some (.d (.str (mkS o.m)))), X⟩ = some (.d (.str (mkS (tl f))), ⟨lsl (.bi b o f g) (some (.d (.str (mkS o.m)))), X⟩) := zv_call (G := LT n) (zv_cons (zv_fzV (sub (d := dt f) rfl) zv_fzD) zv_ret) ih1
      have a2 : callM (LT n) (consM (fzV (Hk.bindM (vM 0) fun x => Hk.bindM (retM (.d (.int 2))) (ixF x))) (retM [])) ⟨lsl (.bi b o f g) (some (.d (.str (mkS o.m)))), X⟩ = some (.d (.str (mkS (tl g))), ⟨lsl (.bi b o f g) (some (.d (.str (mkS o.m)))), X⟩) := zv_call (G := LT n) (zv_cons (zv_fzV (sub (d := dt g) rfl) zv_fzD) zv_ret) ih2
      have ht : txD (.bi b o f g) = .str (mkS ([40] ++ tl f ++ o.m ++ tl g ++ [41])) := by
        show Dt.str (mkS (40 :: (tl f ++ o.m ++ tl g ++ [41]))) = _
        simp
      have lm : o.m.length = 3 := rfl
      have a3 : ltB (LT n) ⟨lsl (.bi b o f g) (some (.d (.str (mkS o.m)))), X⟩ = some (.d (txD (.bi b o f g)), ⟨lsl (.bi b o f g) (some (.d (.str (mkS o.m)))), X⟩) := by
        rw [ht]
        unfold ltB
        rw [h40, h41]
        have c1 : (Hk.bindM (retM (.d (.str (mkS [40])))) fun x => Hk.bindM (callM (LT n) (consM (fzV (Hk.bindM (vM 0) fun x => Hk.bindM (retM (.d (.int 1))) (ixF x))) (retM []))) (addF x)) ⟨lsl (.bi b o f g) (some (.d (.str (mkS o.m)))), X⟩ = some (.d (.str (mkS ([40] ++ tl f))), ⟨lsl (.bi b o f g) (some (.d (.str (mkS o.m)))), X⟩) :=
          zv_bind zv_ret (zv_bind a1 (zv_addSS zv_seeD zv_seeD (by simp only [List.length_cons, List.length_nil]; omega)))
        exact zv_bind (zv_bind (zv_bind c1 (zv_bind (zv_var rfl) (zv_addSS zv_seeD zv_seeD (by simp only [List.length_append, List.length_cons, List.length_nil]; omega)))) (zv_bind a2 (zv_addSS zv_seeD zv_seeD (by simp only [List.length_append, List.length_cons, List.length_nil]; omega)))) (zv_bind zv_ret (zv_addSS zv_seeD zv_seeD (by simp only [List.length_append, List.length_cons, List.length_nil]; omega)))
      have s2 : setS 2 ltD ⟨lsl (.bi b o f g) none, ce⟩ = some (.nx ⟨lsl (.bi b o f g) (some (.d (.str (mkS o.m)))), X⟩) := zk_set d1
      refine key (D := [.dic [.inr "and", .inr "or", .inr "if"] [.str " & ", .str " | ", .str " > "]]) (j := some (.d (.str (mkS o.m)))) ?_
      rw [hX]
      exact zk_seq e0 (zk_nx (zk_seq (zk_ifF (tst (eL rfl)) rfl zk_nil) (zk_nx (zk_seq (zk_ifF (tst (eA rfl)) rfl zk_nil) (zk_nx (zk_seq (zk_ifF (t2 (k := false) (by cases o <;> rfl)) rfl zk_nil) (zk_nx (zk_seq (zk_ifT (t3 (k := true) (by cases o <;> rfl)) rfl (zk_seq s2 (zk_nx (zk_ret a3)))) zk_rt))))))))
/-! ### pieces of a text -/
theorem chr_at {T : Str} {A R : List Nat} {c : Nat} (h : wd T = A ++ c :: R) (hl : T.length ≤ 100000) : ixD (.str T) (.int (A.length : Nat)) = some (.str (mkS [c])) := by
  show (if T.length ≤ sizeLine then (atI T.cps.toList ((A.length : Nat) : Int)).map fun c => Dt.str ⟨#[c]⟩ else none) = _
  rw [if_pos (sz_of hl)]
  have e : T.cps.toList = A ++ c :: R := h
  rw [e, atI_nat (v := c) (by simp)]
  rfl
theorem wd_tlen {T : Str} : T.length = (wd T).length := (wd_len T).symm
theorem cut_at {T : Str} {A R : List Nat} (k : Nat) (h : wd T = A ++ R) : cutS T (some ((A.length : Nat) : Int)) (some ((A.length + k : Nat) : Int)) = mkS (R.take k) := by
  have hn : T.length = A.length + R.length := by rw [wd_tlen, h, List.length_append]
  have e : T.cps.toList = A ++ R := h
  show Str.mk ((T.cps.toList.drop (HT.sIx T.length 0 _)).take (HT.sIx T.length T.length _ - HT.sIx T.length 0 _)).toArray = _
  have m1 : min A.length (A.length + R.length) = A.length := Nat.min_eq_left (Nat.le_add_right _ _)
  rw [HT.sIx_nat, HT.sIx_nat, hn, e, m1, List.drop_left]
  show mkS _ = mkS _
  congr 1
  rw [List.take_eq_take_iff]
  omega
theorem sgn_at {c : Nat} {z : Str} {k : Bool} (h : decide (c ∈ wd z) = k) : sgnF (.str (mkS [c])) (.str z) = some (.bl k) := by
  subst h
  rfl
theorem bw_no {c : Nat} {l : List Nat} (h : c ≠ 32) : look2 (mkS (c :: l)) k_BETWEEN_WORDS = none := by
  have ne : ∀ {s : Str} {r : List Nat}, wd s = 32 :: r → mkS (c :: l) ≠ s := fun {s r} hs e => by
    have := congrArg wd e
    rw [wd_mkS, hs] at this
    injection this with h1 _
    exact h h1
  show (if mkS (c :: l) = " & " then _ else if mkS (c :: l) = " | " then _ else if mkS (c :: l) = " > " then _ else none) = none
  rw [if_neg (ne (r := [38, 32]) (by decide +kernel)), if_neg (ne (r := [124, 32]) (by decide +kernel)), if_neg (ne (r := [62, 32]) (by decide +kernel))]
abbrev SM : Fn := f_is_small
theorem big_no {c : Nat} (h : c < 97) (ce : List Ce) : SM [.d (.str (mkS [c]))] ce = some (.d (.bl false), ce) := by
  have e1 : leSF (.str "a") (.str (mkS [c])) = some (.bl false) := by
    have h2 : ([c] < ("a" : Str).cps.toList) := by
      rw [show ("a" : Str).cps.toList = [97] from by decide +kernel]
      exact List.cons_lt_cons_iff.mpr (.inl h)
    show some (Dt.bl (!decide ([c] < ("a" : Str).cps.toList))) = _
    rw [decide_eq_true h2]
    rfl
  have e2 : (Hk.bindM (vM 0) fun x => Hk.bindM (retM (.d (.str "z"))) ((op2 leSF) x)) = (Hk.bindM (vM 0) fun x => Hk.bindM (retM (.d (.str "z"))) ((op2 leSF) x)) := rfl
  unfold SM f_is_small
  apply cut_ev (m_is_small ⟨[some (.d (.str (mkS [c])))], ce⟩)
  case h =>
    unfold m_is_small
    exact zk_ret (zv_chain zv_ret (zv_var rfl) (zv_op2 zv_seeD zv_seeD e1) (zpk_F rfl zv_bl))
  case k =>
    intro ev
    exact zf_rt ev (trim_d (List.take_length))
abbrev PIECE : Fn := f_piece_at SM
def pcI : M Vl := Hk.bindM (vM 0) fun x => Hk.bindM (vM 1) (ixF x)
def pc3 : M Vl := Hk.bindM (vM 0) fun x => Hk.bindM (partM (vM 1)) fun l => Hk.bindM (partM (Hk.bindM (vM 1) fun x => Hk.bindM (retM (.d (.int 3))) (addF x))) fun h => slF x l h
def pcE : M Vl := Hk.bindM (vM 0) fun x => Hk.bindM (partM (vM 1)) fun l => Hk.bindM (partM (vM 2)) fun h => slF x l h
def pcT : M Bool := Hk.andM (Hk.bindM (Hk.bindM (vM 2) fun x => Hk.bindM (Hk.bindM (consM (vM 0) (retM [])) (fn1 lenD)) (op2 ltF x)) boolM) (Hk.orM (Hk.bindM (callM SM (consM (fzV (Hk.bindM (vM 0) fun x => Hk.bindM (vM 2) (ixF x))) (retM []))) truM) (Hk.bindM (Hk.bindM (Hk.bindM (vM 0) fun x => Hk.bindM (vM 2) (ixF x)) fun x => Hk.bindM (retM (.d (.str "-"))) (op2 eqF x)) boolM))
def pcB : En → Option Rs := augS 2 (fun i j => i + j) (retM (.d (.int 1)))
theorem pc_is : m_piece_at SM = (seqS (ifS (Hk.bindM (Hk.bindM pcI fun x => Hk.bindM (retM (.d (.str "~#()"))) (op2 sgnF x)) boolM) (retS pcI) nilS)
    (seqS (ifS (Hk.bindM (inAM false k_BETWEEN_WORDS pc3) boolM) (retS pc3) nilS)
    (seqS (setS 2 (vM 1))
    (seqS (whileS pcT pcB 100000)
    (seqS (ifS (Hk.bindM (Hk.bindM (vM 2) fun x => Hk.bindM (vM 1) (op2 eqF x)) boolM) (fun _ => none) nilS)
    (retS pcE)))))) := rfl
def psl (T : Str) (a : Nat) (j : Option Vl) : List (Option Vl) := [some (.d (.str T)), some (.d (.int (a : Nat))), j]
section
variable {T : Str} {A R : List Nat} {ce : List Ce}
theorem pcI_ok {c : Nat} (h : wd T = A ++ c :: R) (hl : T.length ≤ 100000) : pcI ⟨psl T A.length none, ce⟩ = some (.d (.str (mkS [c])), ⟨psl T A.length none, ce⟩) := zv_bind (zv_var rfl) (zv_bind (zv_var rfl) (zv_ix zv_seeD zv_seeD (chr_at h hl)))
theorem pc3_ok (h : wd T = A ++ R) (hl : T.length ≤ 100000) : pc3 ⟨psl T A.length none, ce⟩ = some (.d (.str (mkS (R.take 3))), ⟨psl T A.length none, ce⟩) := by
  have e1 : (partM (Hk.bindM (vM 1) fun x => Hk.bindM (retM (.d (.int 3))) (addF x))) ⟨psl T A.length none, ce⟩ = some (some ((A.length + 3 : Nat) : Int), ⟨psl T A.length none, ce⟩) := zv_part (zv_bind (zv_var rfl) (zv_bind zv_ret (zv_addI zv_seeD zv_seeD)))
  have e2 : slF (.d (.str T)) (some ((A.length : Nat) : Int)) (some ((A.length + 3 : Nat) : Int)) ⟨psl T A.length none, ce⟩ = some (.d (.str (mkS (R.take 3))), ⟨psl T A.length none, ce⟩) := by
    rw [zv_slS zv_seeD (sz_of hl), cut_at 3 h]
  exact zv_bind (zv_var rfl) (zv_bind (zv_part (zv_var rfl)) (zv_bind e1 e2))
theorem sign_piece {c : Nat} (h : wd T = A ++ c :: R) (hl : T.length ≤ 100000) (hc : c = 126 ∨ c = 35 ∨ c = 40 ∨ c = 41) (ce : List Ce) : PIECE [.d (.str T), .d (.int (A.length : Nat))] ce = some (.d (.str (mkS [c])), ce) := by
  have ht : (Hk.bindM (Hk.bindM pcI fun x => Hk.bindM (retM (.d (.str "~#()"))) (op2 sgnF x)) boolM) ⟨psl T A.length none, ce⟩ = some (true, ⟨psl T A.length none, ce⟩) :=
    zv_bind (zv_bind (pcI_ok h hl) (zv_bind zv_ret (zv_op2 zv_seeD zv_seeD (sgn_at (k := true) (by rcases hc with rfl | rfl | rfl | rfl <;> decide +kernel))))) zv_bool
  have e : m_piece_at SM ⟨psl T A.length none, ce⟩ = some (.rt (.d (.str (mkS [c]))) ⟨psl T A.length none, ce⟩) := by
    rw [pc_is]
    exact zk_seq (zk_ifT ht rfl (zk_ret (pcI_ok h hl))) zk_rt
  exact zf_rt (nl := 1) (m := m_piece_at SM) e (trim_d List.take_length)
theorem mid_piece {o : Bi} (h : wd T = A ++ (o.m ++ R)) (hl : T.length ≤ 100000) (ce : List Ce) : PIECE [.d (.str T), .d (.int (A.length : Nat))] ce = some (.d (.str (mkS o.m)), ce) := by
  have h1 : wd T = A ++ 32 :: ([o.c, 32] ++ R) := h
  have ht : (Hk.bindM (Hk.bindM pcI fun x => Hk.bindM (retM (.d (.str "~#()"))) (op2 sgnF x)) boolM) ⟨psl T A.length none, ce⟩ = some (false, ⟨psl T A.length none, ce⟩) :=
    zv_bind (zv_bind (pcI_ok h1 hl) (zv_bind zv_ret (zv_op2 zv_seeD zv_seeD (sgn_at (k := false) (by decide +kernel))))) zv_bool
  have e3 := pc3_ok (ce := ce) h hl
  have e4 : (o.m ++ R).take 3 = o.m := by
    show (32 :: o.c :: 32 :: R).take 3 = [32, o.c, 32]
    rfl
  rw [e4] at e3
  have h2 : (look2 (mkS o.m) k_BETWEEN_WORDS).isSome = true := by
    cases o with
    | and => rw [show mkS Bi.and.m = " & " by decide +kernel]; rfl
    | or => rw [show mkS Bi.or.m = " | " by decide +kernel]; rfl
    | iff => rw [show mkS Bi.iff.m = " > " by decide +kernel]; rfl
  have ht2 : (Hk.bindM (inAM false k_BETWEEN_WORDS pc3) boolM) ⟨psl T A.length none, ce⟩ = some (true, ⟨psl T A.length none, ce⟩) := by
    have e5 := zv_inA (neg := false) (tb := k_BETWEEN_WORDS) e3
    rw [if_pos h2] at e5
    exact zv_bind e5 zv_bool
  have e : m_piece_at SM ⟨psl T A.length none, ce⟩ = some (.rt (.d (.str (mkS o.m))) ⟨psl T A.length none, ce⟩) := by
    rw [pc_is]
    exact zk_seq (zk_ifF ht rfl zk_nil) (zk_nx (zk_seq (zk_ifT ht2 rfl (zk_ret e3)) zk_rt))
  exact zf_rt (nl := 1) (m := m_piece_at SM) e (trim_d List.take_length)
/-- what may follow a word -/
def Fol (R : List Nat) : Prop := R = [] ∨ ∃ c r, R = c :: r ∧ (c = 41 ∨ c = 32)
def Wch (c : Nat) : Prop := (97 ≤ c ∧ c ≤ 122) ∨ c = 45
theorem pc_loop (hl : T.length ≤ 100000) (hf : Fol R) {a : Nat} : ∀ (W P : List Nat) (n : Nat), W.length < n → (∀ c ∈ W, Wch c) → wd T = P ++ (W ++ R) → whileS pcT pcB n ⟨psl T a (some (.d (.int (P.length : Nat)))), ce⟩ = some (.nx ⟨psl T a (some (.d (.int ((P.length + W.length : Nat)))))
    , ce⟩)
  | [], P, 0, hn, _, _ => by simp at hn
  | [], P, n + 1, hn, hc, h => by
    rw [List.nil_append] at h
    have hT : T.length = P.length + R.length := by rw [wd_tlen, h, List.length_append]
    have hlen : lenD (.str T) = some (.int (T.length : Int)) := by
      show (if T.length ≤ sizeLine then _ else _) = _
      rw [if_pos (sz_of hl)]
    have l1 : ∀ {k : Bool}, decide ((P.length : Int) < (T.length : Int)) = k → (Hk.bindM (Hk.bindM (vM 2) fun x => Hk.bindM (Hk.bindM (consM (vM 0) (retM [])) (fn1 lenD)) (op2 ltF x)) boolM) ⟨psl T a (some (.d (.int (P.length : Nat)))), ce⟩ = some (k, ⟨psl T a (some (.d (.int (P.length : Nat)))), ce⟩) := fun hk => by
      subst hk
      exact zv_bind (zv_bind (zv_var rfl) (zv_bind (zv_bind (zv_cons (zv_var rfl) zv_ret) (zv_fn1 zv_seeD hlen)) (zv_op2 zv_seeD zv_seeD rfl))) zv_bool
    rcases hf with rfl | ⟨c, r, rfl, hc2⟩
    · exact zk_whF (zv_andF (l1 (k := false) (decide_eq_false (by rw [hT]; simp))) rfl) rfl rfl
    · have hi : (Hk.bindM (vM 0) fun x => Hk.bindM (vM 2) (ixF x)) ⟨psl T a (some (.d (.int (P.length : Nat)))), ce⟩ = some (.d (.str (mkS [c])), ⟨psl T a (some (.d (.int (P.length : Nat)))), ce⟩) := zv_bind (zv_var rfl) (zv_bind (zv_var rfl) (zv_ix zv_seeD zv_seeD (chr_at h hl)))
      have h1 : (Hk.bindM (callM SM (consM (fzV (Hk.bindM (vM 0) fun x => Hk.bindM (vM 2) (ixF x))) (retM []))) truM) ⟨psl T a (some (.d (.int (P.length : Nat)))), ce⟩ = some (false, ⟨psl T a (some (.d (.int (P.length : Nat)))), ce⟩) := zv_bind (zv_call (G := SM) (zv_cons (zv_fzV hi zv_fzD) zv_ret) (big_no (c := c) (by omega) ce)) (zv_tru zv_seeD rfl)
      have h2 : eqF (.str (mkS [c])) (.str "-") = some (.bl false) := by
        rcases hc2 with rfl | rfl <;> exact eqw (by decide +kernel) (by decide +kernel) (by decide +kernel)
      have h3 : (Hk.bindM (Hk.bindM (Hk.bindM (vM 0) fun x => Hk.bindM (vM 2) (ixF x)) fun x => Hk.bindM (retM (.d (.str "-"))) (op2 eqF x)) boolM) ⟨psl T a (some (.d (.int (P.length : Nat)))), ce⟩ = some (false, ⟨psl T a (some (.d (.int (P.length : Nat)))), ce⟩) := zv_bind (zv_bind hi (zv_bind zv_ret (zv_op2 zv_seeD zv_seeD h2))) zv_bool
      exact zk_whF (zv_andT (l1 (k := true) (decide_eq_true (by rw [hT]; simp only [List.length_cons]; omega))) rfl (zv_orF h1 rfl h3)) rfl rfl
  | c :: W, P, 0, hn, _, _ => by simp at hn
  | c :: W, P, n + 1, hn, hc, h => by
    have hT : T.length = P.length + (W.length + 1 + R.length) := by
      rw [wd_tlen, h]
      simp only [List.length_append, List.length_cons]
    have hlen : lenD (.str T) = some (.int (T.length : Int)) := by
      show (if T.length ≤ sizeLine then _ else _) = _
      rw [if_pos (sz_of hl)]
    have l1 : (Hk.bindM (Hk.bindM (vM 2) fun x => Hk.bindM (Hk.bindM (consM (vM 0) (retM [])) (fn1 lenD)) (op2 ltF x)) boolM) ⟨psl T a (some (.d (.int (P.length : Nat)))), ce⟩ = some (true, ⟨psl T a (some (.d (.int (P.length : Nat)))), ce⟩) := by
      have e : ltF (.int (P.length : Int)) (.int (T.length : Int)) = some (.bl true) := by
        show some (Dt.bl (decide ((P.length : Int) < (T.length : Int)))) = _
        rw [decide_eq_true (by rw [hT]; omega)]
      exact zv_bind (zv_bind (zv_var rfl) (zv_bind (zv_bind (zv_cons (zv_var rfl) zv_ret) (zv_fn1 zv_seeD hlen)) (zv_op2 zv_seeD zv_seeD e))) zv_bool
    have hi : (Hk.bindM (vM 0) fun x => Hk.bindM (vM 2) (ixF x)) ⟨psl T a (some (.d (.int (P.length : Nat)))), ce⟩ = some (.d (.str (mkS [c])), ⟨psl T a (some (.d (.int (P.length : Nat)))), ce⟩) := zv_bind (zv_var rfl) (zv_bind (zv_var rfl) (zv_ix zv_seeD zv_seeD (chr_at h hl)))
    have ht : pcT ⟨psl T a (some (.d (.int (P.length : Nat)))), ce⟩ = some (true, ⟨psl T a (some (.d (.int (P.length : Nat)))), ce⟩) := by
      refine zv_andT l1 rfl ?_
      rcases hc c List.mem_cons_self with ⟨c1, c2⟩ | rfl
      · exact zv_orT (zv_bind (zv_call (G := SM) (zv_cons (zv_fzV hi zv_fzD) zv_ret) (small_ok c1 c2 ce)) (zv_tru zv_seeD rfl)) rfl
      · have h2 : eqF (.str (mkS [45])) (.str "-") = some (.bl true) := eqw (by decide +kernel) (by decide +kernel) (by decide +kernel)
        exact zv_orF (zv_bind (zv_call (G := SM) (zv_cons (zv_fzV hi zv_fzD) zv_ret) (big_no (c := 45) (by omega) ce)) (zv_tru zv_seeD rfl)) rfl (zv_bind (zv_bind hi (zv_bind zv_ret (zv_op2 zv_seeD zv_seeD h2))) zv_bool)
    have hb : pcB ⟨psl T a (some (.d (.int (P.length : Nat)))), ce⟩ = some (.nx ⟨psl T a (some (.d (.int ((P ++ [c]).length : Nat)))), ce⟩) := by
      have e := zk_aug (f := fun i j => i + j) (i := 2) (p := (P.length : Int)) (q := 1) (E := ⟨psl T a (some (.d (.int (P.length : Nat)))), ce⟩) (m := retM (.d (.int 1))) rfl zv_ret
      have hc : ((P.length : Int) + 1) = ((P ++ [c]).length : Nat) := by simp
      rw [← hc]
      exact e
    have ih := pc_loop (a := a) hl hf W (P ++ [c]) n (by simp only [List.length_cons] at hn; omega) (fun x hx => hc x (List.mem_cons_of_mem _ hx)) (by rw [h]; simp)
    have el : (P ++ [c]).length + W.length = P.length + (c :: W).length := by
      simp only [List.length_append, List.length_cons, List.length_nil]
      omega
    rw [el] at ih
    exact zk_whT ht rfl hb ih
theorem word_piece {W : List Nat} (h : wd T = A ++ (W ++ R)) (hl0 : T.length ≤ 90000) (hf : Fol R) (hw : ∀ c ∈ W, Wch c) (h0 : ∃ c W', W = c :: W' ∧ 97 ≤ c) (ce : List Ce) : PIECE [.d (.str T), .d (.int (A.length : Nat))] ce = some (.d (.str (mkS W)), ce) := by
  obtain ⟨c, W', rfl, hc⟩ := h0
  have hl : T.length ≤ 100000 := by omega
  have h1 : wd T = A ++ c :: (W' ++ R) := h
  have hc2 : c ≤ 122 := by
    rcases hw c List.mem_cons_self with ⟨_, q⟩ | q <;> omega
  have hs : decide (c ∈ wd "~#()") = false := by
    rw [show wd "~#()" = [126, 35, 40, 41] by decide +kernel]
    apply decide_eq_false
    simp only [List.mem_cons, List.not_mem_nil, or_false]
    omega
  have ht : (Hk.bindM (Hk.bindM pcI fun x => Hk.bindM (retM (.d (.str "~#()"))) (op2 sgnF x)) boolM) ⟨psl T A.length none, ce⟩ = some (false, ⟨psl T A.length none, ce⟩) :=
    zv_bind (zv_bind (pcI_ok h1 hl) (zv_bind zv_ret (zv_op2 zv_seeD zv_seeD (sgn_at hs)))) zv_bool
  have e3 := pc3_ok (ce := ce) h hl
  have ht2 : (Hk.bindM (inAM false k_BETWEEN_WORDS pc3) boolM) ⟨psl T A.length none, ce⟩ = some (false, ⟨psl T A.length none, ce⟩) := by
    have e5 := zv_inA (neg := false) (tb := k_BETWEEN_WORDS) e3
    have e6 : (c :: W' ++ R).take 3 = c :: (W' ++ R).take 2 := rfl
    rw [e6, bw_no (by omega)] at e5
    exact zv_bind e5 zv_bool
  have hn : (c :: W').length < 100000 := by
    have : T.length = A.length + ((c :: W').length + R.length) := by
      rw [wd_tlen, h]
      simp only [List.length_append]
    omega
  have e7 := pc_loop (ce := ce) hl hf (a := A.length) (c :: W') A 100000 hn hw h
  have e8 : setS 2 (vM 1) ⟨psl T A.length none, ce⟩ = some (.nx ⟨psl T A.length (some (.d (.int (A.length : Nat)))), ce⟩) := zk_set (zv_var rfl)
  have e9 : (Hk.bindM (Hk.bindM (vM 2) fun x => Hk.bindM (vM 1) (op2 eqF x)) boolM) ⟨psl T A.length (some (.d (.int ((A.length + (c :: W').length : Nat))))), ce⟩ = some (false, ⟨psl T A.length (some (.d (.int ((A.length + (c :: W').length : Nat))))), ce⟩) := by
    have e : eqF (.int ((A.length + (c :: W').length : Nat) : Int)) (.int (A.length : Nat)) = some (.bl false) := zw_eq (by
      rw [zq_int]
      congr 1
      rw [beq_eq_false_iff_ne]
      simp only [List.length_cons]
      omega)
    exact zv_bind (zv_bind (zv_var rfl) (zv_bind (zv_var rfl) (zv_op2 zv_seeD zv_seeD e))) zv_bool
  have e10 : pcE ⟨psl T A.length (some (.d (.int ((A.length + (c :: W').length : Nat))))), ce⟩ = some (.d (.str (mkS (c :: W'))), ⟨psl T A.length (some (.d (.int ((A.length + (c :: W').length : Nat))))), ce⟩) := by
    have e2 : slF (.d (.str T)) (some ((A.length : Nat) : Int)) (some ((A.length + (c :: W').length : Nat) : Int)) ⟨psl T A.length (some (.d (.int ((A.length + (c :: W').length : Nat))))), ce⟩ = some (.d (.str (mkS (c :: W'))), ⟨psl T A.length (some (.d (.int ((A.length + (c :: W').length : Nat))))), ce⟩) := by
      rw [zv_slS zv_seeD (sz_of hl), cut_at (c :: W').length h, List.take_left]
    exact zv_bind (zv_var rfl) (zv_bind (zv_part (zv_var rfl)) (zv_bind (zv_part (zv_var rfl)) e2))
  have e : m_piece_at SM ⟨psl T A.length none, ce⟩ = some (.rt (.d (.str (mkS (c :: W')))) ⟨psl T A.length (some (.d (.int ((A.length + (c :: W').length : Nat))))), ce⟩) := by
    rw [pc_is]
    exact zk_seq (zk_ifF ht rfl zk_nil) (zk_nx (zk_seq (zk_ifF ht2 rfl zk_nil) (zk_nx (zk_seq e8 (zk_nx (zk_seq e7 (zk_nx (zk_seq (zk_ifF e9 rfl zk_nil) (zk_nx (zk_ret e10))))))))))
  exact zf_rt (nl := 1) (m := m_piece_at SM) e (trim_d List.take_length)
end
/-! ### all pieces -/
def pcs : Fm → List (List Nat)
  | .un _ u f => [u.c] :: pcs f
  | .bi _ o f g => [40] :: (pcs f ++ o.m :: (pcs g ++ [[41]]))
  | f => [tl f]
def pcD (l : List Nat) : Dt := .str (mkS l)
abbrev PIECES : Fn := f_pieces_of PIECE
def ppT : M Bool := Hk.bindM (Hk.bindM (vM 2) fun x => Hk.bindM (Hk.bindM (consM (vM 0) (retM [])) (fn1 lenD)) (op2 ltF x)) boolM
def ppB : En → Option Rs := (seqS (setS 3 (callM PIECE (consM (fzV (vM 0)) (consM (fzV (vM 2)) (retM [])))))
    (seqS (dropS (bmM "list" (vM 1) (consM (vM 3) (retM [])) appF))
    (augS 2 (fun i j => i + j) (Hk.bindM (consM (vM 3) (retM [])) (fn1 lenD)))))
theorem pp_is : m_pieces_of PIECE = (seqS (setS 1 (lstM (retM [])))
    (seqS (setS 2 (retM (.d (.int 0))))
    (seqS (whileS ppT ppB 100000)
    (retS (vM 1))))) := rfl
def qsl (T : Str) (n a : Nat) (j : Option Vl) : List (Option Vl) := [some (.d (.str T)), some (.c (n + 0)), some (.d (.int (a : Nat))), j]
theorem len_str {T : Str} (hl : T.length ≤ 100000) : lenD (.str T) = some (.int (T.length : Int)) := by
  show (if T.length ≤ sizeLine then _ else _) = _
  rw [if_pos (sz_of hl)]
theorem ppT_ok {T : Str} {n a : Nat} {j : Option Vl} {ce : List Ce} {k : Bool} (hl : T.length ≤ 100000) (hk : decide (a < T.length) = k) : ppT ⟨qsl T n a j, ce⟩ = some (k, ⟨qsl T n a j, ce⟩) := by
  have e : ltF (.int (a : Int)) (.int (T.length : Int)) = some (.bl k) := by
    show some (Dt.bl (decide ((a : Int) < (T.length : Int)))) = _
    rw [← hk]
    congr 2
    by_cases q : a < T.length
    · rw [decide_eq_true q, decide_eq_true (by omega)]
    · rw [decide_eq_false q, decide_eq_false (by omega)]
  exact zv_bind (zv_bind (zv_var rfl) (zv_bind (zv_bind (zv_cons (zv_var rfl) zv_ret) (zv_fn1 zv_seeD (len_str hl))) (zv_op2 zv_seeD zv_seeD e))) zv_bool
theorem pp_step {T : Str} {ce : List Ce} {A p R : List Nat} {P : List Dt} {j : Option Vl} {n : Nat} {Q : Rs} (hl : T.length ≤ 90000) (h : wd T = A ++ (p ++ R)) (hp : 1 ≤ p.length) (hP : P.length < 99999) (hv : ∀ ce, PIECE [.d (.str T), .d (.int (A.length : Nat))] ce = some (.d (.str (mkS p)), ce))
    (q : whileS ppT ppB n ⟨qsl T ce.length (A ++ p).length (some (.d (pcD p))), ce ++ [.lst (P ++ [pcD p])]⟩ = some Q) : whileS ppT ppB (n + 1) ⟨qsl T ce.length A.length j, ce ++ [.lst P]⟩ = some Q := by
  have hT : T.length = A.length + (p.length + R.length) := by
    rw [wd_tlen, h]
    simp only [List.length_append]
  have t := ppT_ok (T := T) (n := ce.length) (a := A.length) (j := j) (ce := ce ++ [.lst P]) (k := true) (by omega) (decide_eq_true (by omega))
  have b1 : setS 3 (callM PIECE (consM (fzV (vM 0)) (consM (fzV (vM 2)) (retM [])))) ⟨qsl T ce.length A.length j, ce ++ [.lst P]⟩ = some (.nx ⟨qsl T ce.length A.length (some (.d (pcD p))), ce ++ [.lst P]⟩) := zk_set (zv_call (G := PIECE) (zv_cons (zv_fzV (zv_var rfl) zv_fzD) (zv_cons (zv_fzV (zv_var rfl) zv_fzD) zv_ret)) (hv _))
  have b2 : dropS (bmM "list" (vM 1) (consM (vM 3) (retM [])) appF) ⟨qsl T ce.length A.length (some (.d (pcD p))), ce ++ [.lst P]⟩ = some (.nx ⟨qsl T ce.length A.length (some (.d (pcD p))), ce ++ [.lst (P ++ [pcD p])]⟩) := zk_drop (zv_appL (i := 0) (zv_var rfl) (zv_cons (zv_var rfl) zv_ret) rfl (by omega) rfl)
  have b3 : (Hk.bindM (consM (vM 3) (retM [])) (fn1 lenD)) ⟨qsl T ce.length A.length (some (.d (pcD p))), ce ++ [.lst (P ++ [pcD p])]⟩ = some (.d (.int ((mkS p).length : Int)), ⟨qsl T ce.length A.length (some (.d (pcD p))), ce ++ [.lst (P ++ [pcD p])]⟩) := zv_bind (zv_cons (zv_var rfl) zv_ret) (zv_fn1 zv_seeD (len_str (by rw [mkS_len]; omega)))
  have b4 := zk_aug (f := fun i j => i + j) (i := 2) (p := (A.length : Int)) rfl b3
  have e : ((A.length : Int) + ((mkS p).length : Int)) = ((A ++ p).length : Nat) := by rw [mkS_len, List.length_append]; omega
  rw [e] at b4
  exact zk_whT t rfl (zk_seq b1 (zk_nx (zk_seq b2 (zk_nx b4)))) q
theorem sm_of {s : Str} (h : (decide (1 ≤ s.length) && decide (s.length ≤ 8) && s.cps.toList.all fun c => decide (97 ≤ c) && decide (c ≤ 122)) = true) : Small s := by
  simp only [Bool.and_eq_true, decide_eq_true_eq, List.all_eq_true] at h
  exact ⟨h.1.1, h.1.2, h.2⟩
theorem pcs_pos (f : Fm) : 1 ≤ (pcs f).length := by
  cases f <;> simp [pcs]
theorem tl_word {f : Fm} (hw : Ws f) (hp : pcs f = [tl f]) : (∀ c ∈ tl f, Wch c) ∧ ∃ c W', tl f = c :: W' ∧ 97 ≤ c := by
  have small : ∀ {s : Str}, Small s → (∀ c ∈ wd s, Wch c) ∧ ∃ c W', wd s = c :: W' ∧ 97 ≤ c := fun {s} h => by
    refine ⟨fun c hc => .inl (h.2.2 c hc), ?_⟩
    cases e : wd s with
    | nil =>
      have := wd_len s
      rw [e] at this
      have h1 := h.1
      simp at this
      omega
    | cons c W' =>
      refine ⟨c, W', rfl, (h.2.2 c ?_).1⟩
      have : c ∈ wd s := by
        rw [e]
        exact List.mem_cons_self
      exact this
  cases f with
  | yes b => exact small (s := "yes") (sm_of (by decide +kernel))
  | no b => exact small (s := "no") (sm_of (by decide +kernel))
  | letter b s => exact small hw
  | act b s t =>
    obtain ⟨h1, c, W', h2, h3⟩ := small hw.1
    obtain ⟨h4, _⟩ := small hw.2
    refine ⟨fun x hx => ?_, c, W' ++ [45] ++ wd t, ?_, h3⟩
    · have hx : x ∈ wd s ++ [45] ++ wd t := hx
      rcases List.mem_append.mp hx with hx | hx
      · rcases List.mem_append.mp hx with hx | hx
        · exact h1 x hx
        · exact .inr (by simpa using hx)
      · exact h4 x hx
    · show wd s ++ [45] ++ wd t = _
      rw [h2]
      rfl
  | un b u f =>
    have h1 := congrArg List.length hp
    have h2 := pcs_pos f
    simp [pcs] at h1
    rw [h1] at h2
    simp at h2
  | bi b o f g =>
    have h1 := congrArg List.length hp
    simp [pcs] at h1
theorem pp_loop {T : Str} {ce : List Ce} (hl : T.length ≤ 90000) : ∀ (f : Fm) (A R : List Nat) (P : List Dt) (j : Option Vl), Ws f → wd T = A ++ (tl f ++ R) → Fol R → P.length + (pcs f).length ≤ 99990 →
    ∃ j', ∀ (n : Nat) (Q : Rs), whileS ppT ppB n ⟨qsl T ce.length (A ++ tl f).length j', ce ++ [.lst (P ++ (pcs f).map pcD)]⟩ = some Q → whileS ppT ppB (n + (pcs f).length) ⟨qsl T ce.length A.length j, ce ++ [.lst P]⟩ = some Q := by
  have leaf : ∀ (f : Fm) (A R : List Nat) (P : List Dt) (j : Option Vl), pcs f = [tl f] → Ws f → wd T = A ++ (tl f ++ R) → Fol R → P.length + (pcs f).length ≤ 99990 →
    ∃ j', ∀ (n : Nat) (Q : Rs), whileS ppT ppB n ⟨qsl T ce.length (A ++ tl f).length j', ce ++ [.lst (P ++ (pcs f).map pcD)]⟩ = some Q → whileS ppT ppB (n + (pcs f).length) ⟨qsl T ce.length A.length j, ce ++ [.lst P]⟩ = some Q := fun f A R P j hp hw h hf hP => by
    obtain ⟨h1, c, W', h2, h3⟩ := tl_word hw hp
    rw [hp] at hP ⊢
    have hP2 : P.length + 1 ≤ 99990 := hP
    refine ⟨some (.d (pcD (tl f))), fun n Q q => pp_step hl h (by rw [h2]; simp) (by omega) (fun ce => word_piece h hl hf h1 ⟨c, W', h2, h3⟩ ce) q⟩
  intro f
  induction f with
  | yes b => intro A R P j; exact leaf _ A R P j rfl
  | no b => intro A R P j; exact leaf _ A R P j rfl
  | letter b s => intro A R P j; exact leaf _ A R P j rfl
  | act b s t => intro A R P j; exact leaf _ A R P j rfl
  | un b u f ih =>
    intro A R P j hw h hf hP
    have hP2 : P.length + ((pcs f).length + 1) ≤ 99990 := hP
    have h1 : wd T = A ++ ([u.c] ++ (tl f ++ R)) := h
    have h2 : wd T = (A ++ [u.c]) ++ (tl f ++ R) := by rw [h1, List.append_assoc]
    obtain ⟨j', e⟩ := ih (A ++ [u.c]) R (P ++ [pcD [u.c]]) (some (.d (pcD [u.c]))) hw h2 hf (by simp only [List.length_append, List.length_cons, List.length_nil]; omega)
    refine ⟨j', fun n Q q => ?_⟩
    have q1 := e n Q (by
      have e1 : (A ++ [u.c] ++ tl f).length = (A ++ tl (.un b u f)).length := by simp [tl]
      have e2 : P ++ [pcD [u.c]] ++ (pcs f).map pcD = P ++ (pcs (.un b u f)).map pcD := by simp [pcs]
      rw [e1, e2]
      exact q)
    exact pp_step (p := [u.c]) hl h1 (by simp) (by omega) (fun ce => sign_piece (c := u.c) h1 (by omega) (by cases u <;> simp [Un.c]) ce) q1
  | bi b o f g ihf ihg =>
    intro A R P j hw h hf hP
    have hP2 : P.length + ((pcs f).length + ((pcs g).length + 1 + 1) + 1) ≤ 99990 := by
      have : (pcs (.bi b o f g)).length = (pcs f).length + ((pcs g).length + 1 + 1) + 1 := by simp [pcs]
      omega
    have h1 : wd T = A ++ ([40] ++ (tl f ++ (o.m ++ (tl g ++ ([41] ++ R))))) := by
      rw [h]
      simp [tl]
    have h2 : wd T = (A ++ [40]) ++ (tl f ++ (o.m ++ (tl g ++ ([41] ++ R)))) := by rw [h1]; simp
    have h3 : wd T = (A ++ [40] ++ tl f) ++ (o.m ++ (tl g ++ ([41] ++ R))) := by rw [h1]; simp
    have h4 : wd T = (A ++ [40] ++ tl f ++ o.m) ++ (tl g ++ ([41] ++ R)) := by rw [h1]; simp
    have h5 : wd T = (A ++ [40] ++ tl f ++ o.m ++ tl g) ++ ([41] ++ R) := by rw [h1]; simp
    obtain ⟨j1, e1⟩ := ihf (A ++ [40]) (o.m ++ (tl g ++ ([41] ++ R))) (P ++ [pcD [40]]) (some (.d (pcD [40]))) hw.1 h2 (.inr ⟨32, _, rfl, .inr rfl⟩) (by simp only [List.length_append, List.length_cons, List.length_nil]; omega)
    obtain ⟨j2, e2⟩ := ihg (A ++ [40] ++ tl f ++ o.m) ([41] ++ R) (P ++ [pcD [40]] ++ (pcs f).map pcD ++ [pcD o.m]) (some (.d (pcD o.m))) hw.2 h4 (.inr ⟨41, _, rfl, .inl rfl⟩) (by simp only [List.length_append, List.length_cons, List.length_nil, List.length_map]; omega)
    refine ⟨some (.d (pcD [41])), fun n Q q => ?_⟩
    have q1 : whileS ppT ppB (n + 1) ⟨qsl T ce.length (A ++ [40] ++ tl f ++ o.m ++ tl g).length j2, ce ++ [.lst (P ++ [pcD [40]] ++ (pcs f).map pcD ++ [pcD o.m] ++ (pcs g).map pcD)]⟩ = some Q := by
      refine pp_step (p := [41]) hl h5 (by simp) (by simp only [List.length_append, List.length_cons, List.length_nil, List.length_map]; omega) (fun ce => sign_piece (c := 41) h5 (by omega) (by simp) ce) ?_
      have c1 : (A ++ [40] ++ tl f ++ o.m ++ tl g ++ [41]).length = (A ++ tl (.bi b o f g)).length := by simp [tl]
      have c2 : P ++ [pcD [40]] ++ (pcs f).map pcD ++ [pcD o.m] ++ (pcs g).map pcD ++ [pcD [41]] = P ++ (pcs (.bi b o f g)).map pcD := by simp [pcs]
      rw [c1, c2]
      exact q
    have q2 := e2 (n + 1) Q q1
    have q3 := pp_step (p := o.m) (j := j1) hl h3 (by show 1 ≤ 3; decide) (by simp only [List.length_append, List.length_cons, List.length_nil, List.length_map]; omega) (fun ce => mid_piece h3 (by omega) ce) q2
    have q4 := e1 _ Q q3
    have q5 := pp_step (p := [40]) (j := j) hl h1 (by simp) (by omega) (fun ce => sign_piece (c := 40) h1 (by omega) (by simp) ce) q4
    have en : n + 1 + (pcs g).length + 1 + (pcs f).length + 1 = n + (pcs (.bi b o f g)).length := by
      simp only [pcs, List.length_cons, List.length_append, List.length_nil]
      omega
    rw [en] at q5
    exact q5
theorem pcs_len : ∀ f : Fm, (pcs f).length ≤ 4 * (pre f).length
  | .yes _ => by simp [pcs, pre]
  | .no _ => by simp [pcs, pre]
  | .letter _ _ => by simp [pcs, pre]
  | .act _ _ _ => by simp [pcs, pre]
  | .un _ _ f => by
    have := pcs_len f
    simp only [pcs, pre, List.length_cons]
    omega
  | .bi _ _ f g => by
    have := pcs_len f
    have := pcs_len g
    simp only [pcs, pre, List.length_cons, List.length_append, List.length_nil]
    omega
theorem pieces_ok {f : Fm} (hw : Ws f) (hl : (pre f).length ≤ 1000) (ce : List Ce) : PIECES [.d (txD f)] ce = some (.c ce.length, ce ++ [.lst ((pcs f).map pcD)]) := by
  have hb := tl_len hw
  have hp := pcs_len f
  have hT : (tx f).length = (tl f).length := mkS_len _
  have hwd : wd (tx f) = [] ++ (tl f ++ []) := by
    rw [List.append_nil]
    exact wd_mkS _
  obtain ⟨j', e⟩ := pp_loop (T := tx f) (ce := ce) (by omega) f [] [] [] none hw hwd (.inl rfl) (by simp; omega)
  have q := ppT_ok (T := tx f) (n := ce.length) (a := ([] ++ tl f).length) (j := j') (ce := ce ++ [.lst ([] ++ (pcs f).map pcD)]) (k := false) (by omega) (decide_eq_false (by rw [List.nil_append]; omega))
  obtain ⟨m, hm⟩ : ∃ m, m + 1 + (pcs f).length = 100000 := ⟨100000 - 1 - (pcs f).length, by omega⟩
  have e2 := e (m + 1) _ (zk_whF q rfl rfl)
  rw [hm] at e2
  have e0 : m_pieces_of PIECE ⟨[some (.d (txD f)), none, none, none], ce⟩ = some (.rt (.c ce.length) ⟨qsl (tx f) ce.length ([] ++ tl f).length j', ce ++ [.lst ([] ++ (pcs f).map pcD)]⟩) := by
    rw [pp_is]
    have a1 : setS 1 (lstM (retM [])) ⟨[some (.d (txD f)), none, none, none], ce⟩ = some (.nx ⟨[some (.d (txD f)), some (.c (ce.length + 0)), none, none], ce ++ [.lst []]⟩) := zk_set (zv_lst zv_ret (by show 0 ≤ 100000; decide) zv_fzA0 zv_newL)
    have a2 : setS 2 (retM (.d (.int 0))) ⟨[some (.d (txD f)), some (.c (ce.length + 0)), none, none], ce ++ [.lst []]⟩ = some (.nx ⟨qsl (tx f) ce.length ([] : List Nat).length none, ce ++ [.lst []]⟩) := zk_set zv_ret
    exact zk_seq a1 (zk_nx (zk_seq a2 (zk_nx (zk_seq e2 (zk_nx (zk_ret (zv_var rfl)))))))
  exact zf_rt (nl := 3) (m := m_pieces_of PIECE) e0 (trim_new rfl)
/-! ### forms read -/
theorem strOk_mk {l : List Nat} (h : ∀ c ∈ l, c < 1000) : PyData.strOk (mkS l) = true := by
  show l.toArray.all (fun c => decide (c < 0x110000)) = true
  simp only [List.all_toArray, List.all_eq_true, decide_eq_true_eq]
  intro c hc
  have := h c hc
  omega
abbrev LEAF : Fn := f_leaf NAME WHO
def Lf (f : Fm) : Prop := ∀ ce : List Ce, LEAF [.d (pcD (tl f))] ce = some (.d (dt f), ce)
/-- leaves that are read back -/
def Lv : Fm → Prop
  | .letter b s => Lf (.letter b s)
  | .act b s t => Lf (.act b s t)
  | .un _ _ f => Lv f
  | .bi _ _ f g => Lv f ∧ Lv g
  | _ => True
theorem leaf_yn {w : Str} (h : inF false (.str w) (.tup [.str "yes", .str "no"]) = some (.bl true)) (ce : List Ce) : LEAF [.d (.str w)] ce = some (.d (.tup [.str w]), ce) := by
  have e : m_leaf NAME WHO ⟨[some (.d (.str w)), none], ce⟩ = some (.rt (.d (.tup [.str w])) ⟨[some (.d (.str w)), none], ce⟩) := by
    have t : (Hk.bindM (Hk.bindM (vM 0) fun x => Hk.bindM (tupM (consM (retM (.d (.str "yes"))) (consM (retM (.d (.str "no"))) (retM [])))) (op2 (inF false) x)) boolM) ⟨[some (.d (.str w)), none], ce⟩ = some (true, ⟨[some (.d (.str w)), none], ce⟩) := zv_bind (zv_bind (zv_var rfl) (zv_bind (zv_tup (zv_cons zv_ret (zv_cons zv_ret zv_ret)) (by show 2 ≤ 100000; decide) (zv_fzA1 zv_fzD (zv_fzA1 zv_fzD zv_fzA0))) (zv_op2 zv_seeD zv_seeD h))) zv_bool
    have r : tupM (consM (vM 0) (retM [])) ⟨[some (.d (.str w)), none], ce⟩ = some (.d (.tup [.str w]), ⟨[some (.d (.str w)), none], ce⟩) := zv_tup (zv_cons (zv_var rfl) zv_ret) (by show 1 ≤ 100000; decide) (zv_fzA1 zv_fzD zv_fzA0)
    exact zk_seq (zk_ifT t rfl (zk_ret r)) zk_rt
  exact zf_rt (nl := 1) (m := m_leaf NAME WHO) e (trim_d List.take_length)
theorem lf_yes (b : Bool) : Lf (.yes b) := fun ce => by
  have e : pcD (tl (.yes b)) = .str "yes" := by
    show Dt.str (mkS (wd "yes")) = _
    rw [mkS_wd]
  rw [e]
  exact leaf_yn rfl ce
theorem lf_no (b : Bool) : Lf (.no b) := fun ce => by
  have e : pcD (tl (.no b)) = .str "no" := by
    show Dt.str (mkS (wd "no")) = _
    rw [mkS_wd]
  rw [e]
  exact leaf_yn rfl ce
/-! #### are_forms -/
abbrev AF : Fn := f_are_forms
def isT : Dt → Bool
  | .tup _ => true
  | _ => false
theorem af_ok {ds : List Dt} (h : ∀ d ∈ ds, isiF "tuple" d = some (.bl (isT d))) (hn : ds.length < 1000) (ce : List Ce) : AF [.d (.lst ds)] ce = some (.c ce.length, ce ++ [.lst (ds.map fun d => .bl (isT d))]) := by
  have hi : itemsM (vM 0) ⟨[some (.d (.lst ds)), none], ce⟩ = some (ds, ⟨[some (.d (.lst ds)), none], ce⟩) := zv_items (zv_var rfl) zv_fzD rfl
  obtain ⟨gs, hc⟩ := comp_gen (v := 1) (mi := itemsM (vM 0)) (t := retM true) (m := Hk.bindM (vM 1) (seeF (isiF "tuple"))) (E := ⟨[some (.d (.lst ds)), none], ce⟩) (sl := [some (.d (.lst ds)), none]) (ce := ce) (ds := ds) (fun _ => true) (fun i => .bl (isT (ds.getD i .non)))
    hi (by show 1 < 2; decide) (by omega) (fun i d c gs hd => by
      refine ⟨gs, rfl, fun _ => ⟨gs, ?_⟩⟩
      have hm : d ∈ ds := List.mem_of_getElem? hd
      have hg : ds.getD i .non = d := by rw [List.getD_eq_getElem?_getD, hd]; rfl
      rw [hg]
      exact zv_bind (zv_var rfl) (zv_see zv_seeD (h d hm)))
  rw [givenD_all] at hc
  have hm : ((List.range ds.length).map fun i => Dt.bl (isT (ds.getD i .non))) = ds.map fun d => .bl (isT d) := by
    apply List.ext_getElem?
    intro i
    rw [List.getElem?_map, List.getElem?_map]
    by_cases hi : i < ds.length
    · rw [List.getElem?_range hi]
      show some (Dt.bl (isT (ds.getD i .non))) = _
      rw [List.getD_eq_getElem?_getD, List.getElem?_eq_getElem hi]
      rfl
    · rw [List.getElem?_eq_none (by simpa using hi), List.getElem?_eq_none (by omega)]
      rfl
  rw [hm] at hc
  have e0 : m_are_forms ⟨[some (.d (.lst ds)), none], ce⟩ = some (.rt (.c ce.length) ⟨[some (.d (.lst ds)), none], ce ++ [.lst (ds.map fun d => .bl (isT d))] ++ gs⟩) := zk_ret hc
  refine zf_rt (nl := 1) (m := m_are_forms) e0 ?_
  show (if ce.length < ce.length then _ else _) = _
  rw [if_neg (by omega)]
  show (match (ce ++ [Ce.lst (ds.map fun d => .bl (isT d))] ++ gs)[ce.length]? with
    | some c => some (Vl.c ce.length, (ce ++ [Ce.lst (ds.map fun d => .bl (isT d))] ++ gs).take ce.length ++ [c])
    | none => none) = _
  rw [get_mid, List.append_assoc, List.take_left]
theorem dt_isT (f : Fm) : isT (dt f) = true ∧ isiF "tuple" (dt f) = some (.bl (isT (dt f))) := by
  cases f <;> exact ⟨rfl, rfl⟩
/-! #### prefixed, bracketed -/
abbrev PREF : Fn := f_prefixed AF
abbrev BRK : Fn := f_bracketed AF
theorem pref_ok (f : Fm) (u : Un) (b : Bool) (ce : List Ce) : PREF [.d (pcD [u.c]), .d (.lst [dt f])] ce = some (.d (dt (.un b u f)), ce) := by
  have h1 := af_ok (ds := [dt f]) (fun d hd => by
    have : d = dt f := by simpa using hd
    rw [this]
    exact (dt_isT f).2) (by show 1 < 1000; decide) ce
  have a1 : callM AF (consM (fzV (vM 1)) (retM [])) ⟨[some (.d (pcD [u.c])), some (.d (.lst [dt f]))], ce⟩ = some (.c ce.length, ⟨[some (.d (pcD [u.c])), some (.d (.lst [dt f]))], ce ++ [.lst [.bl (isT (dt f))]]⟩) := zv_call (G := AF) (zv_cons (zv_fzV (zv_var rfl) zv_fzD) zv_ret) h1
  have a2 : lstM (consM (retM (.d (.bl true))) (retM [])) ⟨[some (.d (pcD [u.c])), some (.d (.lst [dt f]))], ce ++ [.lst [.bl (isT (dt f))]]⟩ = some (.c (ce ++ [Ce.lst [.bl (isT (dt f))]]).length, ⟨[some (.d (pcD [u.c])), some (.d (.lst [dt f]))], ce ++ [.lst [.bl (isT (dt f))]] ++ [.lst [.bl true]]⟩) := zv_lst (zv_cons zv_ret zv_ret) (by show 1 ≤ 100000; decide) (zv_fzA1 zv_fzD zv_fzA0) zv_newL
  have hq : eqd (.lst [.bl (isT (dt f))]) (.lst [.bl true]) = some true := by
    rw [(dt_isT f).1]
    exact zq_blsL (bs := [true]) (cs := [true])
  have t : (Hk.bindM (Hk.bindM (callM AF (consM (fzV (vM 1)) (retM []))) fun x => Hk.bindM (lstM (consM (retM (.d (.bl true))) (retM []))) (op2 neF x)) boolM) ⟨[some (.d (pcD [u.c])), some (.d (.lst [dt f]))], ce⟩ = some (false, ⟨[some (.d (pcD [u.c])), some (.d (.lst [dt f]))], ce ++ [.lst [.bl (isT (dt f))]] ++ [.lst [.bl true]]⟩) :=
    zv_bind (zv_bind a1 (zv_bind a2 (zv_op2 (zv_seeC (get_mid _ _ _)) (zv_seeC (get_new _ _)) (zw_ne hq)))) zv_bool
  have hlk : look2 (mkS [u.c]) k_AHEAD_WORDS = some (.str u.s) := by
    cases u with
    | not => rw [show mkS [Un.not.c] = "~" by decide +kernel]; rfl
    | box => rw [show mkS [Un.box.c] = "#" by decide +kernel]; rfl
  have i1 : ∀ {c2 : List Ce}, (Hk.bindM (vM 1) fun x => Hk.bindM (retM (.d (.int 0))) (ixF x)) ⟨[some (.d (pcD [u.c])), some (.d (.lst [dt f]))], c2⟩ = some (.d (dt f), ⟨[some (.d (pcD [u.c])), some (.d (.lst [dt f]))], c2⟩) := zv_bind (zv_var rfl) (zv_bind zv_ret (zv_ix zv_seeD zv_seeD rfl))
  have r : (tupM (consM (ixDM k_AHEAD_WORDS (vM 0)) (consM (Hk.bindM (vM 1) fun x => Hk.bindM (retM (.d (.int 0))) (ixF x)) (retM [])))) ⟨[some (.d (pcD [u.c])), some (.d (.lst [dt f]))], ce ++ [.lst [.bl (isT (dt f))]] ++ [.lst [.bl true]]⟩ = some (.d (dt (.un b u f)), ⟨[some (.d (pcD [u.c])), some (.d (.lst [dt f]))], ce ++ [.lst [.bl (isT (dt f))]] ++ [.lst [.bl true]]⟩) :=
    zv_tup (zv_cons (zv_ixD (zv_var rfl) hlk) (zv_cons i1 zv_ret)) (by show 2 ≤ 100000; decide) (zv_fzA1 zv_fzD (zv_fzA1 zv_fzD zv_fzA0))
  have e : m_prefixed AF ⟨[some (.d (pcD [u.c])), some (.d (.lst [dt f]))], ce⟩ = some (.rt (.d (dt (.un b u f))) ⟨[some (.d (pcD [u.c])), some (.d (.lst [dt f]))], ce ++ [.lst [.bl (isT (dt f))]] ++ [.lst [.bl true]]⟩) := zk_seq (zk_ifF t rfl zk_nil) (zk_nx (zk_ret r))
  exact zf_rt (nl := 0) (m := m_prefixed AF) e (trim_d (by show (ce ++ _ ++ _).take ce.length = ce; rw [List.append_assoc, List.take_left]))
theorem mid_look (o : Bi) : look2 (mkS o.m) k_BETWEEN_WORDS = some (.str o.s) := by
  cases o with
  | and => rw [show mkS Bi.and.m = " & " by decide +kernel]; rfl
  | or => rw [show mkS Bi.or.m = " | " by decide +kernel]; rfl
  | iff => rw [show mkS Bi.iff.m = " > " by decide +kernel]; rfl
theorem brk_ok (f g : Fm) (o : Bi) (b : Bool) (ce : List Ce) : BRK [.d (.lst [pcD [41], dt g, pcD o.m, dt f])] ce = some (.d (dt (.bi b o f g)), ce) := by
  generalize hB : [pcD [41], dt g, pcD o.m, dt f] = B
  have h1 := af_ok (ds := B) (fun d hd => by
    rw [← hB] at hd
    simp only [List.mem_cons, List.not_mem_nil, or_false] at hd
    rcases hd with rfl | rfl | rfl | rfl
    · rfl
    · exact (dt_isT g).2
    · rfl
    · exact (dt_isT f).2) (by rw [← hB]; show 4 < 1000; decide) ce
  have hBm : B.map (fun d => Dt.bl (isT d)) = [.bl false, .bl true, .bl false, .bl true] := by
    rw [← hB]
    show [Dt.bl (isT (pcD [41])), .bl (isT (dt g)), .bl (isT (pcD o.m)), .bl (isT (dt f))] = _
    rw [(dt_isT f).1, (dt_isT g).1]
    rfl
  rw [hBm] at h1
  have a1 : callM AF (consM (fzV (vM 0)) (retM [])) ⟨[some (.d (.lst B))], ce⟩ = some (.c ce.length, ⟨[some (.d (.lst B))], ce ++ [.lst [.bl false, .bl true, .bl false, .bl true]]⟩) := zv_call (G := AF) (zv_cons (zv_fzV (zv_var rfl) zv_fzD) zv_ret) h1
  have a2 : lstM (consM (retM (.d (.bl false))) (consM (retM (.d (.bl true))) (consM (retM (.d (.bl false))) (consM (retM (.d (.bl true))) (retM []))))) ⟨[some (.d (.lst B))], ce ++ [.lst [.bl false, .bl true, .bl false, .bl true]]⟩ = some (.c (ce ++ [Ce.lst [.bl false, .bl true, .bl false, .bl true]]).length, ⟨[some (.d (.lst B))], ce ++ [.lst [.bl false, .bl true, .bl false, .bl true]] ++ [.lst [.bl false, .bl true, .bl false, .bl true]]⟩) := zv_lst (zv_cons zv_ret (zv_cons zv_ret (zv_cons zv_ret (zv_cons zv_ret zv_ret)))) (by show 4 ≤ 100000; decide) (zv_fzA1 zv_fzD (zv_fzA1 zv_fzD (zv_fzA1 zv_fzD (zv_fzA1 zv_fzD zv_fzA0)))) zv_newL
  have t : (Hk.bindM (Hk.bindM (callM AF (consM (fzV (vM 0)) (retM []))) fun x => Hk.bindM (lstM (consM (retM (.d (.bl false))) (consM (retM (.d (.bl true))) (consM (retM (.d (.bl false))) (consM (retM (.d (.bl true))) (retM [])))))) (op2 neF x)) boolM) ⟨[some (.d (.lst B))], ce⟩ = some (false, ⟨[some (.d (.lst B))], ce ++ [.lst [.bl false, .bl true, .bl false, .bl true]] ++ [.lst [.bl false, .bl true, .bl false, .bl true]]⟩) :=
    zv_bind (zv_bind a1 (zv_bind a2 (zv_op2 (zv_seeC (get_mid _ _ _)) (zv_seeC (get_new _ _)) (zw_ne (zq_blsL (bs := [false, true, false, true]) (cs := [false, true, false, true])))))) zv_bool
  generalize hX : ce ++ [Ce.lst [.bl false, .bl true, .bl false, .bl true]] ++ [Ce.lst [.bl false, .bl true, .bl false, .bl true]] = X at t
  have ix : ∀ {i : Int} {d : Dt}, ixD (.lst B) (.int i) = some d → (Hk.bindM (vM 0) fun x => Hk.bindM (retM (.d (.int i))) (ixF x)) ⟨[some (.d (.lst B))], X⟩ = some (.d d, ⟨[some (.d (.lst B))], X⟩) := fun h => zv_bind (zv_var rfl) (zv_bind zv_ret (zv_ix zv_seeD zv_seeD h))
  have hne : neF (pcD [41]) (.str ")") = some (.bl false) := zw_ne (k := true) (by
    show eqd (.str (mkS [41])) (.str ")") = some true
    rw [zq_str (by decide +kernel) (by decide +kernel)]
    decide +kernel)
  have t2 : (Hk.orM (Hk.bindM (Hk.bindM (Hk.bindM (vM 0) fun x => Hk.bindM (retM (.d (.int 0))) (ixF x)) fun x => Hk.bindM (retM (.d (.str ")"))) (op2 neF x)) boolM) (Hk.bindM (inAM true k_BETWEEN_WORDS (Hk.bindM (vM 0) fun x => Hk.bindM (retM (.d (.int 2))) (ixF x))) boolM)) ⟨[some (.d (.lst B))], X⟩ = some (false, ⟨[some (.d (.lst B))], X⟩) := by
    have tA : (Hk.bindM (Hk.bindM (Hk.bindM (vM 0) fun x => Hk.bindM (retM (.d (.int 0))) (ixF x)) fun x => Hk.bindM (retM (.d (.str ")"))) (op2 neF x)) boolM) ⟨[some (.d (.lst B))], X⟩ = some (false, ⟨[some (.d (.lst B))], X⟩) := zv_bind (zv_bind (ix (i := 0) (d := pcD [41]) (by rw [← hB]; rfl)) (zv_bind zv_ret (zv_op2 zv_seeD zv_seeD hne))) zv_bool
    refine zv_orF tA rfl ?_
    have e5 := zv_inA (neg := true) (tb := k_BETWEEN_WORDS) (ix (i := 2) (d := .str (mkS o.m)) (by rw [← hB]; rfl))
    rw [mid_look] at e5
    exact zv_bind e5 zv_bool
  have r : (tupM (consM (ixDM k_BETWEEN_WORDS (Hk.bindM (vM 0) fun x => Hk.bindM (retM (.d (.int 2))) (ixF x))) (consM (Hk.bindM (vM 0) fun x => Hk.bindM (retM (.d (.int 3))) (ixF x)) (consM (Hk.bindM (vM 0) fun x => Hk.bindM (retM (.d (.int 1))) (ixF x)) (retM []))))) ⟨[some (.d (.lst B))], X⟩ = some (.d (dt (.bi b o f g)), ⟨[some (.d (.lst B))], X⟩) :=
    zv_tup (zv_cons (zv_ixD (ix (i := 2) (d := .str (mkS o.m)) (by rw [← hB]; rfl)) (mid_look o)) (zv_cons (ix (i := 3) (d := dt f) (by rw [← hB]; rfl)) (zv_cons (ix (i := 1) (d := dt g) (by rw [← hB]; rfl)) zv_ret))) (by show 3 ≤ 100000; decide) (zv_fzA1 zv_fzD (zv_fzA1 zv_fzD (zv_fzA1 zv_fzD zv_fzA0)))
  have e : m_bracketed AF ⟨[some (.d (.lst B))], ce⟩ = some (.rt (.d (dt (.bi b o f g))) ⟨[some (.d (.lst B))], X⟩) := zk_seq (zk_ifF t rfl zk_nil) (zk_nx (zk_seq (zk_ifF t2 rfl zk_nil) (zk_nx (zk_ret r))))
  exact zf_rt (nl := 0) (m := m_bracketed AF) e (trim_d (by
    show X.take ce.length = ce
    rw [← hX, List.append_assoc, List.take_left]))
/-! #### form_of -/
def fsl (T : Dt) (n : Nat) (j : Option Vl) : List (Option Vl) := [some (.d T), some (.c (n + 0)), j]
def fst (ce : List Ce) (S : List Dt) (D : List Ce) : List Ce := ce ++ (.lst S :: D)
theorem fst_new {ce : List Ce} {S : List Dt} {D : List Ce} {c : Ce} : fst ce S D ++ [c] = fst ce S (D ++ [c]) := by
  show (ce ++ (.lst S :: D)) ++ [c] = _
  rw [List.append_assoc]
  rfl
theorem fst_len {ce : List Ce} {S : List Dt} {D : List Ce} : (fst ce S D).length = ce.length + (D.length + 1) := by
  show (ce ++ (.lst S :: D)).length = _
  rw [List.length_append]
  rfl
theorem fst_get {ce : List Ce} {S : List Dt} {D : List Ce} {c : Ce} : (fst ce S (D ++ [c]))[ce.length + (D.length + 1)]? = some c := by
  refine get_L ?_
  show (D ++ [c])[D.length]? = some c
  exact get_new D c
theorem fst_set {ce : List Ce} {S : List Dt} {D : List Ce} {c c' : Ce} : (fst ce S (D ++ [c])).set (ce.length + (D.length + 1)) c' = fst ce S (D ++ [c']) := by
  show (ce ++ _).set _ _ = _
  rw [set_L]
  show ce ++ (.lst S :: (D ++ [c]).set D.length c') = _
  rw [set_new]
  rfl
theorem zk_setE {mv mo : M Vl} {m j k : Nat} {sl : List (Option Vl)} {E E1 : En} {ce : List Ce} {ds xs : List Dt} (h : mv E = some (.c j, E1)) (ho : mo E1 = some (.c k, ⟨sl, ce⟩)) (hj : ce[j]? = some (.lst ds)) (hk : ce[k]? = some (.lst xs)) (hc : j ≠ k ∧ 1 ≤ m ∧ m ≤ xs.length ∧ xs.length + ds.length ≤ 100000) :
    setES mv mo m E = some (.nx ⟨sl, ce.set k (.lst (xs.take (xs.length - m) ++ ds))⟩) := by
  unfold setES
  rw [zv_bind (m := mv) h (zv_bind (m := mo) (f := fun q => retM (Vl.c j, q)) ho zv_ret)]
  show (match ce[j]?, ce[k]? with
    | some (.lst ds), some (.lst xs) => if j ≠ k ∧ 1 ≤ m ∧ m ≤ xs.length ∧ xs.length + ds.length ≤ 100000 then some (Rs.nx ⟨sl, ce.set k (.lst (xs.take (xs.length - m) ++ ds))⟩) else none
    | _, _ => none) = _
  rw [hj, hk]
  show (if _ then _ else _) = _
  rw [if_pos hc]
theorem cut_end {S X : List Dt} (hX : 1 ≤ X.length) : Hk.cutD (S ++ X) (some (-((X.length : Nat) : Int))) none = X := by
  have h1 : HT.sIx (S ++ X).length 0 (some (-((X.length : Nat) : Int))) = S.length := by
    show (if -((X.length : Nat) : Int) < 0 then (-((X.length : Nat) : Int) + (((S ++ X).length : Nat) : Int)).toNat else min (-((X.length : Nat) : Int)).toNat (S ++ X).length) = _
    rw [if_pos (by omega), List.length_append]
    omega
  unfold Hk.cutD
  rw [h1, HT.sIx_none, List.drop_left, List.length_append, List.take_of_length_le (by omega)]
def sliceM (m : Int) : M Vl := Hk.bindM (vM 1) fun x => Hk.bindM (partM (negM (retM (.d (.int m))))) fun l => Hk.bindM (retM none) fun h => slF x l h
theorem slice_ok {T : Dt} {j : Vl} {ce : List Ce} {S X : List Dt} {D : List Ce} (hX : 1 ≤ X.length) (hj : ∃ d, j = .d d) : fzV (sliceM (X.length : Nat)) ⟨fsl T ce.length (some j), fst ce (S ++ X) D⟩ = some (.d (.lst X), ⟨fsl T ce.length (some j), fst ce (S ++ X) (D ++ [.dead])⟩) := by
  obtain ⟨d, rfl⟩ := hj
  have e1 : slF (.c (ce.length + 0)) (some (-((X.length : Nat) : Int))) none ⟨fsl T ce.length (some (.d d)), fst ce (S ++ X) D⟩ = some (.c (ce.length + (D.length + 1)), ⟨fsl T ce.length (some (.d d)), fst ce (S ++ X) (D ++ [.lst X])⟩) := by
    have hs : see (fst ce (S ++ X) D) (.c (ce.length + 0)) = some (.lst (S ++ X)) := zv_seeC (get_L (ce := ce) (L := .lst (S ++ X) :: D) (i := 0) rfl)
    rw [zv_slL (E := ⟨fsl T ce.length (some (.d d)), fst ce (S ++ X) D⟩) hs zv_newL, cut_end hX, fst_len, fst_new]
  have e2 : sliceM (X.length : Nat) ⟨fsl T ce.length (some (.d d)), fst ce (S ++ X) D⟩ = some (.c (ce.length + (D.length + 1)), ⟨fsl T ce.length (some (.d d)), fst ce (S ++ X) (D ++ [.lst X])⟩) := zv_bind (zv_var rfl) (zv_bind (zv_part (zv_neg zv_ret)) (zv_bind zv_ret e1))
  have h := zv_fzC (sl := fsl T ce.length (some (.d d))) (fst_get (ce := ce) (S := S ++ X) (D := D) (c := .lst X))
  have hm : (fsl T ce.length (some (.d d))).map (Option.map (frzV (ce.length + (D.length + 1)) (.lst X))) = fsl T ce.length (some (.d d)) := by
    have n1 : ¬ (ce.length + 0 = ce.length + (D.length + 1)) := by omega
    show [some (Vl.d T), some (if ce.length + 0 = ce.length + (D.length + 1) then _ else .c (ce.length + 0)), some (Vl.d d)] = _
    rw [if_neg n1]
    rfl
  rw [fst_set, hm] at h
  exact zv_fzV e2 h
/-! #### the turns of form_of -/
def fbU : En → Option Rs := setES (lstM (consM (callM PREF (consM (fzV (vM 2)) (consM (fzV (sliceM 1)) (retM [])))) (retM []))) (vM 1) 1
def fbO : En → Option Rs := setES (lstM (consM (callM BRK (consM (fzV (sliceM 4)) (retM []))) (retM []))) (vM 1) 4
def fbT1 : M Bool := Hk.bindM (inAM false k_AHEAD_WORDS (vM 2)) boolM
def fbT2 : M Bool := Hk.bindM (Hk.bindM (vM 2) fun x => Hk.bindM (retM (.d (.str "("))) (op2 eqF x)) boolM
def fbT3a : M Bool := Hk.bindM (Hk.bindM (vM 2) fun x => Hk.bindM (retM (.d (.str ")"))) (op2 eqF x)) boolM
def fbT3b : M Bool := Hk.bindM (inAM false k_BETWEEN_WORDS (vM 2)) boolM
def fbA : En → Option Rs := dropS (bmM "list" (vM 1) (consM (vM 2) (retM [])) appF)
def fbL : En → Option Rs := dropS (bmM "list" (vM 1) (consM (callM LEAF (consM (fzV (vM 2)) (retM []))) (retM [])) appF)
def FB : En → Option Rs := ifS fbT1 fbU (ifS fbT2 fbO (ifS (Hk.orM fbT3a fbT3b) fbA fbL))
theorem fo_is : m_form_of PIECES PREF BRK LEAF AF = (seqS (setS 1 (lstM (retM [])))
    (seqS (forS (itemsM (revM (callM PIECES (consM (fzV (vM 0)) (retM []))))) (nameG 2) FB)
    (seqS (ifS (Hk.bindM (Hk.bindM (callM AF (consM (fzV (vM 1)) (retM []))) fun x => Hk.bindM (lstM (consM (retM (.d (.bl true))) (retM []))) (op2 neF x)) boolM) (fun _ => none) nilS)
    (retS (Hk.bindM (vM 1) fun x => Hk.bindM (retM (.d (.int 0))) (ixF x)))))) := rfl
theorem head_ne {c d : Nat} {l r : List Nat} {s : Str} (hs : wd s = d :: r) (h : c ≠ d) : mkS (c :: l) ≠ s := fun e => by
  have := congrArg wd e
  rw [wd_mkS, hs] at this
  injection this with h1 _
  exact h h1
theorem aw_no {c : Nat} {l : List Nat} (h : c ≠ 126) (h2 : c ≠ 35) : look2 (mkS (c :: l)) k_AHEAD_WORDS = none := by
  show (if mkS (c :: l) = "~" then _ else if mkS (c :: l) = "#" then _ else none) = none
  rw [if_neg (head_ne (d := 126) (r := []) (by decide +kernel) h), if_neg (head_ne (d := 35) (r := []) (by decide +kernel) h2)]
section
variable {T : Dt} {n : Nat} {ce : List Ce} {p : List Nat}
theorem t1_ok {k : Bool} (h : (look2 (mkS p) k_AHEAD_WORDS).isSome = k) : fbT1 ⟨fsl T n (some (.d (pcD p))), ce⟩ = some (k, ⟨fsl T n (some (.d (pcD p))), ce⟩) := by
  have e := zv_inA (neg := false) (tb := k_AHEAD_WORDS) (m := vM 2) (s := mkS p) (E := ⟨fsl T n (some (.d (pcD p))), ce⟩) (E1 := ⟨fsl T n (some (.d (pcD p))), ce⟩) (zv_var rfl)
  rw [h] at e
  have e2 : (if k = true then !false else false) = k := by cases k <;> rfl
  rw [e2] at e
  exact zv_bind e zv_bool
theorem t3b_ok {k : Bool} (h : (look2 (mkS p) k_BETWEEN_WORDS).isSome = k) : fbT3b ⟨fsl T n (some (.d (pcD p))), ce⟩ = some (k, ⟨fsl T n (some (.d (pcD p))), ce⟩) := by
  have e := zv_inA (neg := false) (tb := k_BETWEEN_WORDS) (m := vM 2) (s := mkS p) (E := ⟨fsl T n (some (.d (pcD p))), ce⟩) (E1 := ⟨fsl T n (some (.d (pcD p))), ce⟩) (zv_var rfl)
  rw [h] at e
  have e2 : (if k = true then !false else false) = k := by cases k <;> rfl
  rw [e2] at e
  exact zv_bind e zv_bool
theorem t2_ok {k : Bool} (h : eqF (pcD p) (.str "(") = some (.bl k)) : fbT2 ⟨fsl T n (some (.d (pcD p))), ce⟩ = some (k, ⟨fsl T n (some (.d (pcD p))), ce⟩) := zv_bind (zv_bind (zv_var rfl) (zv_bind zv_ret (zv_op2 zv_seeD zv_seeD h))) zv_bool
theorem t3a_ok {k : Bool} (h : eqF (pcD p) (.str ")") = some (.bl k)) : fbT3a ⟨fsl T n (some (.d (pcD p))), ce⟩ = some (k, ⟨fsl T n (some (.d (pcD p))), ce⟩) := zv_bind (zv_bind (zv_var rfl) (zv_bind zv_ret (zv_op2 zv_seeD zv_seeD h))) zv_bool
end
section
variable {T : Dt} {ce : List Ce} {S : List Dt} {D : List Ce}
theorem turn_un (f : Fm) (u : Un) (b : Bool) (hS : S.length < 50000) : FB ⟨fsl T ce.length (some (.d (pcD [u.c]))), fst ce (S ++ [dt f]) D⟩ = some (.nx ⟨fsl T ce.length (some (.d (pcD [u.c]))), fst ce (S ++ [dt (.un b u f)]) (D ++ [.dead] ++ [.lst [dt (.un b u f)]])⟩) := by
  have t := t1_ok (T := T) (n := ce.length) (ce := fst ce (S ++ [dt f]) D) (p := [u.c]) (k := true) (by
    cases u with
    | not => rw [show mkS [Un.not.c] = "~" by decide +kernel]; rfl
    | box => rw [show mkS [Un.box.c] = "#" by decide +kernel]; rfl)
  have a1 : fzV (sliceM 1) ⟨fsl T ce.length (some (.d (pcD [u.c]))), fst ce (S ++ [dt f]) D⟩ = some (.d (.lst [dt f]), ⟨fsl T ce.length (some (.d (pcD [u.c]))), fst ce (S ++ [dt f]) (D ++ [.dead])⟩) := slice_ok (X := [dt f]) (by show 1 ≤ 1; decide) ⟨_, rfl⟩
  have a2 : callM PREF (consM (fzV (vM 2)) (consM (fzV (sliceM 1)) (retM []))) ⟨fsl T ce.length (some (.d (pcD [u.c]))), fst ce (S ++ [dt f]) D⟩ = some (.d (dt (.un b u f)), ⟨fsl T ce.length (some (.d (pcD [u.c]))), fst ce (S ++ [dt f]) (D ++ [.dead])⟩) := zv_call (G := PREF) (zv_cons (zv_fzV (zv_var rfl) zv_fzD) (zv_cons a1 zv_ret)) (pref_ok f u b _)
  have a3 : lstM (consM (callM PREF (consM (fzV (vM 2)) (consM (fzV (sliceM 1)) (retM [])))) (retM [])) ⟨fsl T ce.length (some (.d (pcD [u.c]))), fst ce (S ++ [dt f]) D⟩ = some (.c (ce.length + ((D ++ [Ce.dead]).length + 1)), ⟨fsl T ce.length (some (.d (pcD [u.c]))), fst ce (S ++ [dt f]) (D ++ [.dead] ++ [.lst [dt (.un b u f)]])⟩) := by
    rw [zv_lst (zv_cons a2 zv_ret) (by show 1 ≤ 100000; decide) (zv_fzA1 zv_fzD zv_fzA0) zv_newL, fst_len, fst_new]
  have e := zk_setE (mo := vM 1) (m := 1) (k := ce.length + 0) a3 (zv_var rfl) (fst_get (D := D ++ [Ce.dead])) (xs := S ++ [dt f]) (get_L (i := 0) rfl) ⟨by omega, by decide, by simp, by simp; omega⟩
  have e2 : (S ++ [dt f]).take ((S ++ [dt f]).length - 1) = S := by simp
  rw [e2] at e
  refine (zk_ifT (m := fbU) t rfl e).trans ?_
  congr 3
  show (ce ++ _).set _ _ = _
  rw [set_L]
  rfl
theorem turn_open (f g : Fm) (o : Bi) (b : Bool) (hS : S.length < 50000) : FB ⟨fsl T ce.length (some (.d (pcD [40]))), fst ce (S ++ [pcD [41], dt g, pcD o.m, dt f]) D⟩ = some (.nx ⟨fsl T ce.length (some (.d (pcD [40]))), fst ce (S ++ [dt (.bi b o f g)]) (D ++ [.dead] ++ [.lst [dt (.bi b o f g)]])⟩) := by
  have t := t1_ok (T := T) (n := ce.length) (ce := fst ce (S ++ [pcD [41], dt g, pcD o.m, dt f]) D) (p := [40]) (k := false) (by rw [aw_no (by decide) (by decide)]; rfl)
  have t2 := t2_ok (T := T) (n := ce.length) (ce := fst ce (S ++ [pcD [41], dt g, pcD o.m, dt f]) D) (p := [40]) (k := true) (eqw (by decide +kernel) (by decide +kernel) (by decide +kernel))
  have a1 : fzV (sliceM 4) ⟨fsl T ce.length (some (.d (pcD [40]))), fst ce (S ++ [pcD [41], dt g, pcD o.m, dt f]) D⟩ = some (.d (.lst [pcD [41], dt g, pcD o.m, dt f]), ⟨fsl T ce.length (some (.d (pcD [40]))), fst ce (S ++ [pcD [41], dt g, pcD o.m, dt f]) (D ++ [.dead])⟩) := slice_ok (X := [pcD [41], dt g, pcD o.m, dt f]) (by show 1 ≤ 4; decide) ⟨_, rfl⟩
  have a2 : callM BRK (consM (fzV (sliceM 4)) (retM [])) ⟨fsl T ce.length (some (.d (pcD [40]))), fst ce (S ++ [pcD [41], dt g, pcD o.m, dt f]) D⟩ = some (.d (dt (.bi b o f g)), ⟨fsl T ce.length (some (.d (pcD [40]))), fst ce (S ++ [pcD [41], dt g, pcD o.m, dt f]) (D ++ [.dead])⟩) := zv_call (G := BRK) (zv_cons a1 zv_ret) (brk_ok f g o b _)
  have a3 : lstM (consM (callM BRK (consM (fzV (sliceM 4)) (retM []))) (retM [])) ⟨fsl T ce.length (some (.d (pcD [40]))), fst ce (S ++ [pcD [41], dt g, pcD o.m, dt f]) D⟩ = some (.c (ce.length + ((D ++ [Ce.dead]).length + 1)), ⟨fsl T ce.length (some (.d (pcD [40]))), fst ce (S ++ [pcD [41], dt g, pcD o.m, dt f]) (D ++ [.dead] ++ [.lst [dt (.bi b o f g)]])⟩) := by
    rw [zv_lst (zv_cons a2 zv_ret) (by show 1 ≤ 100000; decide) (zv_fzA1 zv_fzD zv_fzA0) zv_newL, fst_len, fst_new]
  have e := zk_setE (mo := vM 1) (m := 4) (k := ce.length + 0) a3 (zv_var rfl) (fst_get (D := D ++ [Ce.dead])) (xs := S ++ [pcD [41], dt g, pcD o.m, dt f]) (get_L (i := 0) rfl) ⟨by omega, by decide, by simp, by simp; omega⟩
  have e2 : (S ++ [pcD [41], dt g, pcD o.m, dt f]).take ((S ++ [pcD [41], dt g, pcD o.m, dt f]).length - 4) = S := by
    have : (S ++ [pcD [41], dt g, pcD o.m, dt f]).length - 4 = S.length := by simp
    rw [this, List.take_left]
  rw [e2] at e
  refine (zk_ifF (n := ifS fbT2 fbO (ifS (Hk.orM fbT3a fbT3b) fbA fbL)) t rfl (zk_ifT (m := fbO) t2 rfl e)).trans ?_
  congr 3
  show (ce ++ _).set _ _ = _
  rw [set_L]
  rfl
theorem fbA_ok {p : List Nat} (hS : S.length < 90000) : fbA ⟨fsl T ce.length (some (.d (pcD p))), fst ce S D⟩ = some (.nx ⟨fsl T ce.length (some (.d (pcD p))), fst ce (S ++ [pcD p]) D⟩) := zk_drop (zv_appL (i := 0) (zv_var rfl) (zv_cons (zv_var rfl) zv_ret) rfl (by omega) rfl)
theorem turn_close (hS : S.length < 90000) : FB ⟨fsl T ce.length (some (.d (pcD [41]))), fst ce S D⟩ = some (.nx ⟨fsl T ce.length (some (.d (pcD [41]))), fst ce (S ++ [pcD [41]]) D⟩) := by
  have t := t1_ok (T := T) (n := ce.length) (ce := fst ce S D) (p := [41]) (k := false) (by rw [aw_no (by decide) (by decide)]; rfl)
  have t2 := t2_ok (T := T) (n := ce.length) (ce := fst ce S D) (p := [41]) (k := false) (eqw (by decide +kernel) (by decide +kernel) (by decide +kernel))
  have t3 := t3a_ok (T := T) (n := ce.length) (ce := fst ce S D) (p := [41]) (k := true) (eqw (by decide +kernel) (by decide +kernel) (by decide +kernel))
  exact zk_ifF t rfl (zk_ifF t2 rfl (zk_ifT (zv_orT t3 rfl) rfl (fbA_ok hS)))
theorem turn_mid (o : Bi) (hS : S.length < 90000) : FB ⟨fsl T ce.length (some (.d (pcD o.m))), fst ce S D⟩ = some (.nx ⟨fsl T ce.length (some (.d (pcD o.m))), fst ce (S ++ [pcD o.m]) D⟩) := by
  have t := t1_ok (T := T) (n := ce.length) (ce := fst ce S D) (p := o.m) (k := false) (by
    show (look2 (mkS (32 :: [o.c, 32])) k_AHEAD_WORDS).isSome = false
    rw [aw_no (by decide) (by decide)]; rfl)
  have t2 := t2_ok (T := T) (n := ce.length) (ce := fst ce S D) (p := o.m) (k := false) (by cases o <;> exact eqw (by decide +kernel) (by decide +kernel) (by decide +kernel))
  have t3 := t3a_ok (T := T) (n := ce.length) (ce := fst ce S D) (p := o.m) (k := false) (by cases o <;> exact eqw (by decide +kernel) (by decide +kernel) (by decide +kernel))
  have t4 := t3b_ok (T := T) (n := ce.length) (ce := fst ce S D) (p := o.m) (k := true) (by rw [mid_look]; rfl)
  exact zk_ifF t rfl (zk_ifF t2 rfl (zk_ifT (zv_orF t3 rfl t4) rfl (fbA_ok hS)))
theorem turn_leaf {f : Fm} (hw : Ws f) (hp : pcs f = [tl f]) (hv : Lf f) (hS : S.length < 90000) : FB ⟨fsl T ce.length (some (.d (pcD (tl f)))), fst ce S D⟩ = some (.nx ⟨fsl T ce.length (some (.d (pcD (tl f)))), fst ce (S ++ [dt f]) D⟩) := by
  obtain ⟨h1, c, W', h2, h3⟩ := tl_word hw hp
  have hc : c ≤ 122 := by
    rcases h1 c (by rw [h2]; exact List.mem_cons_self) with ⟨_, q⟩ | q <;> omega
  have hs : PyData.strOk (mkS (tl f)) = true := strOk_mk fun x hx => by
    rcases h1 x hx with ⟨_, q⟩ | q <;> omega
  have t := t1_ok (T := T) (n := ce.length) (ce := fst ce S D) (p := tl f) (k := false) (by rw [h2, aw_no (by omega) (by omega)]; rfl)
  have t2 := t2_ok (T := T) (n := ce.length) (ce := fst ce S D) (p := tl f) (k := false) (eqw hs (by decide +kernel) (decide_eq_false (by rw [h2]; exact head_ne (d := 40) (r := []) (by decide +kernel) (by omega))))
  have t3 := t3a_ok (T := T) (n := ce.length) (ce := fst ce S D) (p := tl f) (k := false) (eqw hs (by decide +kernel) (decide_eq_false (by rw [h2]; exact head_ne (d := 41) (r := []) (by decide +kernel) (by omega))))
  have t4 := t3b_ok (T := T) (n := ce.length) (ce := fst ce S D) (p := tl f) (k := false) (by rw [h2, bw_no (by omega)]; rfl)
  have a1 : callM LEAF (consM (fzV (vM 2)) (retM [])) ⟨fsl T ce.length (some (.d (pcD (tl f)))), fst ce S D⟩ = some (.d (dt f), ⟨fsl T ce.length (some (.d (pcD (tl f)))), fst ce S D⟩) := zv_call (G := LEAF) (zv_cons (zv_fzV (zv_var rfl) zv_fzD) zv_ret) (hv _)
  have a2 : fbL ⟨fsl T ce.length (some (.d (pcD (tl f)))), fst ce S D⟩ = some (.nx ⟨fsl T ce.length (some (.d (pcD (tl f)))), fst ce (S ++ [dt f]) D⟩) := zk_drop (zv_appL (i := 0) (acc := S) (zv_var rfl) (zv_cons a1 zv_ret) rfl (by omega) rfl)
  exact zk_ifF t rfl (zk_ifF t2 rfl (zk_ifF (zv_orF t3 rfl t4) rfl a2))
end
theorem fo_loop (T : Dt) (ce : List Ce) : ∀ (f : Fm) (S : List Dt) (D : List Ce) (j : Option Vl), Ws f → Lv f → S.length + 4 * (pre f).length ≤ 40000 →
    ∃ D' j', ∀ (rest : List Dt) (Q : Rs), forL (nameG 2) FB rest ⟨fsl T ce.length j', fst ce (S ++ [dt f]) D'⟩ = some Q → forL (nameG 2) FB (((pcs f).map pcD).reverse ++ rest) ⟨fsl T ce.length j, fst ce S D⟩ = some Q := by
  have leaf : ∀ (f : Fm) (S : List Dt) (D : List Ce) (j : Option Vl), pcs f = [tl f] → Lf f → Ws f → S.length + 4 * (pre f).length ≤ 40000 →
    ∃ D' j', ∀ (rest : List Dt) (Q : Rs), forL (nameG 2) FB rest ⟨fsl T ce.length j', fst ce (S ++ [dt f]) D'⟩ = some Q → forL (nameG 2) FB (((pcs f).map pcD).reverse ++ rest) ⟨fsl T ce.length j, fst ce S D⟩ = some Q := fun f S D j hp hv hw hS => by
    refine ⟨D, some (.d (pcD (tl f))), fun rest Q q => ?_⟩
    rw [hp]
    exact fl_cons zg_name (turn_leaf hw hp hv (by omega)) q
  intro f
  induction f with
  | yes b => intro S D j hw hv; exact leaf _ S D j rfl (lf_yes b) hw
  | no b => intro S D j hw hv; exact leaf _ S D j rfl (lf_no b) hw
  | letter b s => intro S D j hw hv; exact leaf _ S D j rfl hv hw
  | act b s t => intro S D j hw hv; exact leaf _ S D j rfl hv hw
  | un b u f ih =>
    intro S D j hw hv hS
    have hp : (pre (.un b u f)).length = (pre f).length + 1 := rfl
    obtain ⟨D', j', e⟩ := ih S D j hw hv (by omega)
    refine ⟨D' ++ [.dead] ++ [.lst [dt (.un b u f)]], some (.d (pcD [u.c])), fun rest Q q => ?_⟩
    have er : ((pcs (.un b u f)).map pcD).reverse ++ rest = ((pcs f).map pcD).reverse ++ (pcD [u.c] :: rest) := by simp [pcs]
    rw [er]
    exact e _ Q (fl_cons zg_name (turn_un f u b (by omega)) q)
  | bi b o f g ihf ihg =>
    intro S D j hw hv hS
    have hp : (pre (.bi b o f g)).length = (pre f).length + (pre g).length + 1 := by
      show (pre f ++ pre g).length + 1 = _
      rw [List.length_append]
    have l1 : 1 ≤ (pre f).length := by cases f <;> simp [pre]
    obtain ⟨D1, j1, e1⟩ := ihg (S ++ [pcD [41]]) D (some (.d (pcD [41]))) hw.2 hv.2 (by simp; omega)
    obtain ⟨D2, j2, e2⟩ := ihf (S ++ [pcD [41]] ++ [dt g] ++ [pcD o.m]) D1 (some (.d (pcD o.m))) hw.1 hv.1 (by simp; omega)
    refine ⟨D2 ++ [.dead] ++ [.lst [dt (.bi b o f g)]], some (.d (pcD [40])), fun rest Q q => ?_⟩
    have er : ((pcs (.bi b o f g)).map pcD).reverse ++ rest = pcD [41] :: (((pcs g).map pcD).reverse ++ (pcD o.m :: (((pcs f).map pcD).reverse ++ (pcD [40] :: rest)))) := by simp [pcs]
    rw [er]
    refine fl_cons zg_name (turn_close (by omega)) (e1 _ Q (fl_cons zg_name (turn_mid o (by simp; omega)) (e2 _ Q ?_)))
    have es : S ++ [pcD [41]] ++ [dt g] ++ [pcD o.m] ++ [dt f] = S ++ [pcD [41], dt g, pcD o.m, dt f] := by simp
    rw [es]
    exact fl_cons zg_name (turn_open f g o b (by omega)) q
abbrev FORM : Fn := f_form_of PIECES PREF BRK LEAF AF
theorem formof_ok {f : Fm} (hw : Ws f) (hv : Lv f) (hl : (pre f).length ≤ 1000) (ce : List Ce) : FORM [.d (txD f)] ce = some (.d (dt f), ce) := by
  obtain ⟨D', j', e⟩ := fo_loop (txD f) ce f [] ([.lst ((pcs f).map pcD)] ++ [.dead]) none hw hv (by simp; omega)
  have e := e [] _ rfl
  rw [List.append_nil, List.nil_append] at e
  have h1 := af_ok (ds := [dt f]) (fun d hd => by
    have : d = dt f := by simpa using hd
    rw [this]
    exact (dt_isT f).2) (by show 1 < 1000; decide)
  have a1 : setS 1 (lstM (retM [])) ⟨[some (.d (txD f)), none, none], ce⟩ = some (.nx ⟨fsl (txD f) ce.length none, fst ce [] []⟩) := zk_set (zv_lst zv_ret (by show 0 ≤ 100000; decide) zv_fzA0 zv_newL)
  have b1 : callM PIECES (consM (fzV (vM 0)) (retM [])) ⟨fsl (txD f) ce.length none, fst ce [] []⟩ = some (.c (ce.length + (([] : List Ce).length + 1)), ⟨fsl (txD f) ce.length none, fst ce [] ([] ++ [.lst ((pcs f).map pcD)])⟩) := by
    rw [zv_call (G := PIECES) (zv_cons (zv_fzV (zv_var rfl) zv_fzD) zv_ret) (pieces_ok hw hl _), fst_len, fst_new]
  have b2 : revM (callM PIECES (consM (fzV (vM 0)) (retM []))) ⟨fsl (txD f) ce.length none, fst ce [] []⟩ = some (.c (ce.length + (([Ce.lst ((pcs f).map pcD)]).length + 1)), ⟨fsl (txD f) ce.length none, fst ce [] ([.lst ((pcs f).map pcD)] ++ [.lst ((pcs f).map pcD).reverse])⟩) := by
    rw [zv_rev b1 (zv_seeC fst_get), fst_len, fst_new]
    rfl
  have b3 := zv_fzC (sl := fsl (txD f) ce.length none) (fst_get (ce := ce) (S := []) (D := [Ce.lst ((pcs f).map pcD)]) (c := .lst ((pcs f).map pcD).reverse))
  have hm : (fsl (txD f) ce.length none).map (Option.map (frzV (ce.length + (([Ce.lst ((pcs f).map pcD)]).length + 1)) (.lst ((pcs f).map pcD).reverse))) = fsl (txD f) ce.length none := by
    have n1 : ¬ (ce.length + 0 = ce.length + (1 + 1)) := by omega
    show [some (Vl.d (txD f)), some (if ce.length + 0 = ce.length + (1 + 1) then _ else .c (ce.length + 0)), none] = _
    rw [if_neg n1]
    rfl
  rw [fst_set, hm] at b3
  have b4 : itemsM (revM (callM PIECES (consM (fzV (vM 0)) (retM [])))) ⟨fsl (txD f) ce.length none, fst ce [] []⟩ = some (((pcs f).map pcD).reverse, ⟨fsl (txD f) ce.length none, fst ce [] ([.lst ((pcs f).map pcD)] ++ [.dead])⟩) := zv_items b2 b3 rfl
  have c1 := zv_fzC (sl := fsl (txD f) ce.length j') (k := ce.length + 0) (get_L (ce := ce) (L := .lst [dt f] :: D') (i := 0) rfl)
  have hm2 : (fsl (txD f) ce.length j').map (Option.map (frzV (ce.length + 0) (.lst [dt f]))) = [some (.d (txD f)), some (.d (.lst [dt f])), j'.map (frzV (ce.length + 0) (.lst [dt f]))] := by
    show [some (Vl.d (txD f)), some (if ce.length + 0 = ce.length + 0 then _ else _), _] = _
    rw [if_pos rfl]
  rw [hm2] at c1
  generalize hX : (ce ++ (Ce.lst [dt f] :: D')).set (ce.length + 0) Ce.dead = X at c1
  generalize hj : j'.map (frzV (ce.length + 0) (.lst [dt f])) = j2 at c1
  have c2 : fzV (vM 1) ⟨fsl (txD f) ce.length j', fst ce [dt f] D'⟩ = some (.d (.lst [dt f]), ⟨[some (.d (txD f)), some (.d (.lst [dt f])), j2], X⟩) := zv_fzV (x := .c (ce.length + 0)) (zv_var rfl) c1
  have c3 : callM AF (consM (fzV (vM 1)) (retM [])) ⟨fsl (txD f) ce.length j', fst ce [dt f] D'⟩ = some (.c X.length, ⟨[some (.d (txD f)), some (.d (.lst [dt f])), j2], X ++ [.lst [.bl (isT (dt f))]]⟩) := zv_call (G := AF) (zv_cons c2 zv_ret) (h1 X)
  have c4 : lstM (consM (retM (.d (.bl true))) (retM [])) ⟨[some (.d (txD f)), some (.d (.lst [dt f])), j2], X ++ [.lst [.bl (isT (dt f))]]⟩ = some (.c (X ++ [Ce.lst [.bl (isT (dt f))]]).length, ⟨[some (.d (txD f)), some (.d (.lst [dt f])), j2], X ++ [.lst [.bl (isT (dt f))]] ++ [.lst [.bl true]]⟩) := zv_lst (zv_cons zv_ret zv_ret) (by show 1 ≤ 100000; decide) (zv_fzA1 zv_fzD zv_fzA0) zv_newL
  have hq : eqd (.lst [.bl (isT (dt f))]) (.lst [.bl true]) = some true := by
    rw [(dt_isT f).1]
    exact zq_blsL (bs := [true]) (cs := [true])
  have c5 : (Hk.bindM (Hk.bindM (callM AF (consM (fzV (vM 1)) (retM []))) fun x => Hk.bindM (lstM (consM (retM (.d (.bl true))) (retM []))) (op2 neF x)) boolM) ⟨fsl (txD f) ce.length j', fst ce [dt f] D'⟩ = some (false, ⟨[some (.d (txD f)), some (.d (.lst [dt f])), j2], X ++ [.lst [.bl (isT (dt f))]] ++ [.lst [.bl true]]⟩) :=
    zv_bind (zv_bind c3 (zv_bind c4 (zv_op2 (zv_seeC (get_mid _ _ _)) (zv_seeC (get_new _ _)) (zw_ne hq)))) zv_bool
  have c6 : (Hk.bindM (vM 1) fun x => Hk.bindM (retM (.d (.int 0))) (ixF x)) ⟨[some (.d (txD f)), some (.d (.lst [dt f])), j2], X ++ [.lst [.bl (isT (dt f))]] ++ [.lst [.bl true]]⟩ = some (.d (dt f), ⟨[some (.d (txD f)), some (.d (.lst [dt f])), j2], X ++ [.lst [.bl (isT (dt f))]] ++ [.lst [.bl true]]⟩) := zv_bind (zv_var rfl) (zv_bind zv_ret (zv_ix zv_seeD zv_seeD rfl))
  have e9 : m_form_of PIECES PREF BRK LEAF AF ⟨[some (.d (txD f)), none, none], ce⟩ = some (.rt (.d (dt f)) ⟨[some (.d (txD f)), some (.d (.lst [dt f])), j2], X ++ [.lst [.bl (isT (dt f))]] ++ [.lst [.bl true]]⟩) := by
    rw [fo_is]
    exact zk_seq a1 (zk_nx (zk_seq (zk_for b4 e) (zk_nx (zk_seq (zk_ifF c5 rfl zk_nil) (zk_nx (zk_ret c6))))))
  refine zf_rt (nl := 2) (m := m_form_of PIECES PREF BRK LEAF AF) e9 (trim_d ?_)
  show (X ++ _ ++ _).take ce.length = ce
  rw [← hX, set_L, List.append_assoc, List.append_assoc, List.take_left]
/-- Saying.read -/
abbrev READ : Fn := f_Saying_read INIT FORM
theorem zv_mkV {i : Nat} {C : Str} {G : Fn} {m : M (List Vl)} {sl : List (Option Vl)} {ce : List Ce} {z : Vl} {E2 : En} (hs : sl[i]? = some (some (.d (.cls C)))) (h : makeM C G m ⟨sl, ce⟩ = some (z, E2)) : mkVM i C G m ⟨sl, ce⟩ = some (z, E2) := by
  unfold mkVM
  show (match sl[i]? with
    | some (some (.d (.cls D))) => if D = C then makeM C G m ⟨sl, ce⟩ else none
    | _ => none) = _
  rw [hs]
  show (if C = C then _ else _) = _
  rw [if_pos rfl]
  exact h
theorem read_ok {f : Fm} (hf : Wf f) (hp : Pl f) (hw : Ws f) (hv : Lv f) (hl : (pre f).length ≤ 1000) (ce : List Ce) : READ [.d (.cls "Saying"), .d (txD f)] ce = some (.c ce.length, ce ++ [sayC f]) := by
  have a1 : fzV (callM FORM (consM (fzV (vM 1)) (retM []))) ⟨[some (.d (.cls "Saying")), some (.d (txD f))], ce⟩ = some (.d (gd f), ⟨[some (.d (.cls "Saying")), some (.d (txD f))], ce⟩) := by
    rw [Pl.eq hp]
    exact zv_fzV (zv_call (G := FORM) (zv_cons (zv_fzV (zv_var rfl) zv_fzD) zv_ret) (formof_ok hw hv hl ce)) zv_fzD
  have a2 := make_ok hf (by omega) (zv_cons a1 zv_ret)
  have e : m_Saying_read INIT FORM ⟨[some (.d (.cls "Saying")), some (.d (txD f))], ce⟩ = some (.rt (.c ce.length) ⟨[some (.d (.cls "Saying")), some (.d (txD f))], ce ++ [sayC f]⟩) := zk_ret (zv_mkV rfl a2)
  exact zf_rt (nl := 0) (m := m_Saying_read INIT FORM) e (trim_new rfl)
/-! ### leaves by name -/
/-- forms that the law draws -/
def Wx : Fm → Prop
  | .letter b s => Wf (.letter b s) ∧ Ws (.letter b s) ∧ Lv (.letter b s)
  | .act b s t => Wf (.act b s t) ∧ Ws (.act b s t) ∧ Lv (.act b s t)
  | .un _ _ f => Wx f
  | .bi _ _ f g => Wx f ∧ Wx g
  | _ => True
theorem Wx.wf : ∀ {f : Fm}, Wx f → Wf f
  | .yes _, _ => True.intro
  | .no _, _ => True.intro
  | .letter _ _, h => h.1
  | .act _ _ _, h => h.1
  | .un _ _ f, h => Wx.wf (f := f) h
  | .bi _ _ f g, h => ⟨Wx.wf h.1, Wx.wf h.2⟩
theorem Wx.ws : ∀ {f : Fm}, Wx f → Ws f
  | .yes _, _ => True.intro
  | .no _, _ => True.intro
  | .letter _ _, h => h.2.1
  | .act _ _ _, h => h.2.1
  | .un _ _ f, h => Wx.ws (f := f) h
  | .bi _ _ f g, h => ⟨Wx.ws h.1, Wx.ws h.2⟩
theorem Wx.lv : ∀ {f : Fm}, Wx f → Lv f
  | .yes _, _ => True.intro
  | .no _, _ => True.intro
  | .letter _ _, h => h.2.2
  | .act _ _ _, h => h.2.2
  | .un _ _ f, h => Wx.lv (f := f) h
  | .bi _ _ f g, h => ⟨Wx.lv h.1, Wx.lv h.2⟩
abbrev WORD : Fn := f_is_word f_is_small
theorem bls_map : ∀ bs : List Bool, blsD (bs.map Dt.bl) = some bs
  | [] => rfl
  | b :: bs => by
    show (blsD (bs.map Dt.bl)).map (b :: ·) = _
    rw [bls_map bs]
    rfl
/-- a word with a dash is none -/
theorem word_no {s : Str} (h1 : 1 ≤ s.length) (h2 : s.length ≤ 8) (h3 : ∀ c ∈ wd s, Wch c) (h4 : 45 ∈ wd s) (ce : List Ce) : WORD [.d (.str s)] ce = some (.d (.bl false), ce) := by
  have hz : s.length ≤ sizeLine := Nat.le_trans h2 (by decide)
  have hl : (chrs s).length = s.length := by simp [chrs, Str.length]
  obtain ⟨gs, hc⟩ := comp_gen (v := 1) (mi := strM (vM 0)) (t := retM true) (m := callM f_is_small (consM (fzV (vM 1)) (retM []))) (E := ⟨[some (.d (.str s)), none], ce⟩) (sl := [some (.d (.str s)), none]) (ce := ce) (ds := chrs s) (fun _ => true) (fun i => .bl (decide (97 ≤ (wd s).getD i 0)))
    (zv_str (zv_var rfl)) (by show 1 < 2; decide) (by omega) (fun i d c gs hd => by
      have hd2 : (s.cps.toList.map fun c => Dt.str ⟨#[c]⟩)[i]? = some d := hd
      rw [List.getElem?_map] at hd2
      cases q : s.cps.toList[i]? with
      | none =>
        rw [q] at hd2
        cases hd2
      | some x =>
        rw [q] at hd2
        cases hd2
        have hx : (wd s).getD i 0 = x := by
          show s.cps.toList.getD i 0 = x
          rw [List.getD_eq_getElem?_getD, q]
          rfl
        rw [hx]
        refine ⟨gs, rfl, fun _ => ⟨gs, ?_⟩⟩
        rcases h3 x (List.mem_of_getElem? q) with ⟨k1, k2⟩ | rfl
        · rw [decide_eq_true k1]
          exact zv_call (zv_cons (zv_fzV (zv_var rfl) zv_fzD) zv_ret) (small_ok k1 k2 _)
        · exact zv_call (zv_cons (zv_fzV (zv_var rfl) zv_fzD) zv_ret) (big_no (c := 45) (by omega) _))
  have hla : lenD (.str s) = some (.int (s.length : Int)) := by
    show (if s.length ≤ sizeLine then _ else _) = _
    rw [if_pos hz]
  rw [givenD_all] at hc
  have ha : allD (.lst ((List.range (chrs s).length).map fun i => Dt.bl (decide (97 ≤ (wd s).getD i 0)))) = some (.bl false) := by
    have e : ((List.range (chrs s).length).map fun i => Dt.bl (decide (97 ≤ (wd s).getD i 0))) = ((List.range (chrs s).length).map fun i => decide (97 ≤ (wd s).getD i 0)).map Dt.bl := by
      rw [List.map_map]
      rfl
    rw [e]
    show (blsD _).map _ = _
    rw [bls_map]
    show some (Dt.bl (((List.range (chrs s).length).map fun i => decide (97 ≤ (wd s).getD i 0)).all fun b => b)) = _
    congr 2
    rw [List.all_eq_false]
    obtain ⟨i, hi, hg⟩ := List.mem_iff_getElem.mp h4
    refine ⟨false, List.mem_map.mpr ⟨i, ?_, ?_⟩, by decide⟩
    · rw [hl]
      rw [wd_len] at hi
      exact List.mem_range.mpr hi
    · rw [List.getD_eq_getElem?_getD, List.getElem?_eq_getElem hi, hg]
      decide
  unfold WORD f_is_word
  apply cut_ev (m_is_word f_is_small ⟨[some (.d (.str s)), none], ce⟩)
  case h =>
    unfold m_is_word
    apply zk_seq (Q := .nx ⟨[some (.d (.str s)), none], ce⟩)
    · walk_at "go"
    · exact zk_nx (zk_ret (zv_bind (zv_cons hc zv_ret) (zv_fn1 (zv_seeC (get_mid _ _ _)) ha)))
  case k =>
    intro ev
    refine zf_rt ev (trim_d ?_)
    show (ce ++ [_] ++ gs).take ce.length = ce
    rw [List.append_assoc, List.take_left]
theorem name_no {s : Str} (h : ∀ ce, WORD [.d (.str s)] ce = some (.d (.bl false), ce)) (ce : List Ce) : NAME [.d (.str s)] ce = some (.d (.bl false), ce) := by
  have e : m_is_name WORD ⟨[some (.d (.str s))], ce⟩ = some (.rt (.d (.bl false)) ⟨[some (.d (.str s))], ce⟩) := zk_ret (zv_andV (zv_bind (zv_call (G := WORD) (zv_cons (zv_fzV (zv_var rfl) zv_fzD) zv_ret) (h ce)) zv_bool) (zpk_F rfl zv_bl))
  exact zf_rt (nl := 0) (m := m_is_name WORD) e (trim_d List.take_length)
theorem zv_spl {mo : M Vl} {ma : M (List Vl)} {a b : Str} {E : En} {sl : List (Option Vl)} {ce : List Ce} (ho : mo E = some (.d (.str a), ⟨sl, ce⟩)) (ha : ma ⟨sl, ce⟩ = some ([.d (.str b)], ⟨sl, ce⟩)) (hb : (b.length == 0) = false) (hl : a.length ≤ 90000) :
    bmM "str" mo ma splF E = some (.c ce.length, ⟨sl, ce ++ [.lst ((Txt.split a b).map Dt.str)]⟩) := by
  refine zv_bind ho ?_
  show (Hk.bindM ma fun xs => splF (.d (.str a)) xs) ⟨sl, ce⟩ = _
  refine zv_bind (m := ma) ha ?_
  show (if (b.length == 0) = false ∧ a.length + 2 ≤ sizeLine then newL ((Txt.split a b).map Dt.str) else failM) ⟨sl, ce⟩ = _
  rw [if_pos ⟨hb, sz_of (by omega)⟩]
  rfl
def lfT1 : M Bool := Hk.bindM (Hk.bindM (vM 0) fun x => Hk.bindM (tupM (consM (retM (.d (.str "yes"))) (consM (retM (.d (.str "no"))) (retM [])))) (op2 (inF false) x)) boolM
def lfT2 : M Bool := Hk.bindM (callM NAME (consM (fzV (vM 0)) (retM []))) truM
def lfS : M Vl := bmM "str" (vM 0) (consM (retM (.d (.str "-"))) (retM [])) splF
def lfT3a : M Bool := Hk.bindM (Hk.bindM (Hk.bindM (consM (vM 1) (retM [])) (fn1 lenD)) fun x => Hk.bindM (retM (.d (.int 2))) (op2 eqF x)) boolM
def lfT3b (i : Int) : M Bool := Hk.bindM (callM WHO (consM (fzV (Hk.bindM (vM 1) fun x => Hk.bindM (retM (.d (.int i))) (ixF x))) (retM []))) truM
def lfR2 : M Vl := tupM (consM (retM (.d (.str "letter"))) (consM (vM 0) (retM [])))
def lfR3 : M Vl := tupM (consM (retM (.d (.str "act"))) (consM (Hk.bindM (vM 1) fun x => Hk.bindM (retM (.d (.int 0))) (ixF x)) (consM (Hk.bindM (vM 1) fun x => Hk.bindM (retM (.d (.int 1))) (ixF x)) (retM []))))
theorem lf_is : m_leaf NAME WHO = (seqS (ifS lfT1 (retS (tupM (consM (vM 0) (retM [])))) nilS)
    (seqS (ifS lfT2 (retS lfR2) nilS)
    (seqS (setS 1 lfS)
    (seqS (ifS (Hk.andM lfT3a (Hk.andM (lfT3b 0) (lfT3b 1))) (retS lfR3) nilS)
    (fun _ => none))))) := rfl
theorem lfT1_ok {s : Str} {ce : List Ce} (h : inF false (.str s) (.tup [.str "yes", .str "no"]) = some (.bl false)) : lfT1 ⟨[some (.d (.str s)), none], ce⟩ = some (false, ⟨[some (.d (.str s)), none], ce⟩) := zv_bind (zv_bind (zv_var rfl) (zv_bind (zv_tup (zv_cons zv_ret (zv_cons zv_ret zv_ret)) (by show 2 ≤ 100000; decide) (zv_fzA1 zv_fzD (zv_fzA1 zv_fzD zv_fzA0))) (zv_op2 zv_seeD zv_seeD h))) zv_bool
theorem lf_letter {s : Str} (b : Bool) (h : inF false (.str s) (.tup [.str "yes", .str "no"]) = some (.bl false)) (hn : NameOk s) : Lf (.letter b s) := fun ce => by
  have e0 : pcD (tl (.letter b s)) = .str s := by
    show Dt.str (mkS (wd s)) = _
    rw [mkS_wd]
  rw [e0]
  have t2 : lfT2 ⟨[some (.d (.str s)), none], ce⟩ = some (true, ⟨[some (.d (.str s)), none], ce⟩) := zv_bind (zv_call (G := NAME) (zv_cons (zv_fzV (zv_var rfl) zv_fzD) zv_ret) (hn ce)) (zv_tru zv_seeD rfl)
  have r : lfR2 ⟨[some (.d (.str s)), none], ce⟩ = some (.d (dt (.letter b s)), ⟨[some (.d (.str s)), none], ce⟩) := zv_tup (zv_cons zv_ret (zv_cons (zv_var rfl) zv_ret)) (by show 2 ≤ 100000; decide) (zv_fzA1 zv_fzD (zv_fzA1 zv_fzD zv_fzA0))
  have e : m_leaf NAME WHO ⟨[some (.d (.str s)), none], ce⟩ = some (.rt (.d (dt (.letter b s))) ⟨[some (.d (.str s)), none], ce⟩) := by
    rw [lf_is]
    exact zk_seq (zk_ifF (lfT1_ok h) rfl zk_nil) (zk_nx (zk_seq (zk_ifT t2 rfl (zk_ret r)) zk_rt))
  exact zf_rt (nl := 1) (m := m_leaf NAME WHO) e (trim_d List.take_length)
theorem lf_act {s t p : Str} (b : Bool) (hp : mkS (wd s ++ [45] ++ wd t) = p) (h : inF false (.str p) (.tup [.str "yes", .str "no"]) = some (.bl false)) (h1 : 1 ≤ p.length) (h2 : p.length ≤ 8) (hs : Small s) (ht : Small t) (hsp : Txt.split p "-" = [s, t]) (ws : WhoOk s) (wt : WhoOk t) : Lf (.act b s t) := fun ce => by
  have e0 : pcD (tl (.act b s t)) = .str p := by
    show Dt.str (mkS (wd s ++ [45] ++ wd t)) = _
    rw [hp]
  rw [e0]
  have hwp : wd p = wd s ++ [45] ++ wd t := by rw [← hp, wd_mkS]
  have hw := word_no h1 h2 (fun c hc => by
    rw [hwp] at hc
    rcases List.mem_append.mp hc with hc | hc
    · rcases List.mem_append.mp hc with hc | hc
      · exact .inl (hs.2.2 c hc)
      · exact .inr (by simpa using hc)
    · exact .inl (ht.2.2 c hc)) (by rw [hwp]; simp)
  have t2 : lfT2 ⟨[some (.d (.str p)), none], ce⟩ = some (false, ⟨[some (.d (.str p)), none], ce⟩) := zv_bind (zv_call (G := NAME) (zv_cons (zv_fzV (zv_var rfl) zv_fzD) zv_ret) (name_no hw ce)) (zv_tru zv_seeD rfl)
  have s1 : setS 1 lfS ⟨[some (.d (.str p)), none], ce⟩ = some (.nx ⟨[some (.d (.str p)), some (.c ce.length)], ce ++ [.lst [.str s, .str t]]⟩) := by
    have e := zv_spl (mo := vM 0) (ma := consM (retM (.d (.str "-"))) (retM [])) (a := p) (b := "-") (sl := [some (.d (.str p)), none]) (ce := ce) (E := ⟨[some (.d (.str p)), none], ce⟩) (zv_var rfl) (zv_cons zv_ret zv_ret) (by decide +kernel) (by omega)
    rw [hsp] at e
    exact zk_set e
  have ix : ∀ {i : Int} {d : Dt}, ixD (.lst [.str s, .str t]) (.int i) = some d → (Hk.bindM (vM 1) fun x => Hk.bindM (retM (.d (.int i))) (ixF x)) ⟨[some (.d (.str p)), some (.c ce.length)], ce ++ [.lst [.str s, .str t]]⟩ = some (.d d, ⟨[some (.d (.str p)), some (.c ce.length)], ce ++ [.lst [.str s, .str t]]⟩) := fun h => zv_bind (zv_var rfl) (zv_bind zv_ret (zv_ix (zv_seeC (get_new _ _)) zv_seeD h))
  have t3a : lfT3a ⟨[some (.d (.str p)), some (.c ce.length)], ce ++ [.lst [.str s, .str t]]⟩ = some (true, ⟨[some (.d (.str p)), some (.c ce.length)], ce ++ [.lst [.str s, .str t]]⟩) := zv_bind (zv_bind (zv_bind (zv_cons (zv_var rfl) zv_ret) (zv_fn1 (zv_seeC (get_new _ _)) rfl)) (zv_bind zv_ret (zv_op2 zv_seeD zv_seeD (zw_eq zq_int)))) zv_bool
  have t3b : lfT3b 0 ⟨[some (.d (.str p)), some (.c ce.length)], ce ++ [.lst [.str s, .str t]]⟩ = some (true, ⟨[some (.d (.str p)), some (.c ce.length)], ce ++ [.lst [.str s, .str t]]⟩) := zv_bind (zv_call (G := WHO) (zv_cons (zv_fzV (ix (i := 0) (d := .str s) rfl) zv_fzD) zv_ret) (ws _)) (zv_tru zv_seeD rfl)
  have t3c : lfT3b 1 ⟨[some (.d (.str p)), some (.c ce.length)], ce ++ [.lst [.str s, .str t]]⟩ = some (true, ⟨[some (.d (.str p)), some (.c ce.length)], ce ++ [.lst [.str s, .str t]]⟩) := zv_bind (zv_call (G := WHO) (zv_cons (zv_fzV (ix (i := 1) (d := .str t) rfl) zv_fzD) zv_ret) (wt _)) (zv_tru zv_seeD rfl)
  have r : lfR3 ⟨[some (.d (.str p)), some (.c ce.length)], ce ++ [.lst [.str s, .str t]]⟩ = some (.d (dt (.act b s t)), ⟨[some (.d (.str p)), some (.c ce.length)], ce ++ [.lst [.str s, .str t]]⟩) := zv_tup (zv_cons zv_ret (zv_cons (ix (i := 0) (d := .str s) rfl) (zv_cons (ix (i := 1) (d := .str t) rfl) zv_ret))) (by show 3 ≤ 100000; decide) (zv_fzA1 zv_fzD (zv_fzA1 zv_fzD (zv_fzA1 zv_fzD zv_fzA0)))
  have e : m_leaf NAME WHO ⟨[some (.d (.str p)), none], ce⟩ = some (.rt (.d (dt (.act b s t))) ⟨[some (.d (.str p)), some (.c ce.length)], ce ++ [.lst [.str s, .str t]]⟩) := by
    rw [lf_is]
    exact zk_seq (zk_ifF (lfT1_ok h) rfl zk_nil) (zk_nx (zk_seq (zk_ifF t2 rfl zk_nil) (zk_nx (zk_seq s1 (zk_nx (zk_seq (zk_ifT (zv_andT t3a rfl (zv_andT t3b rfl t3c)) rfl (zk_ret r)) zk_rt))))))
  exact zf_rt (nl := 1) (m := m_leaf NAME WHO) e (trim_d List.take_left)
/-! ### drawing -/
def StOk (n : Nat) (xs : List Dt) : Prop := ∃ a b c : Int, xs = [.int a, .int b, .int c] ∧ 0 ≤ a ∧ 0 ≤ b ∧ b ≤ 2 ^ 32 ∧ 0 ≤ c ∧ c ≤ n
theorem stream_ok (ns : List Int) (k : Nat) (ce : List Ce) (hk : k ≤ 100) : ∃ xs, f__law_stream [.d (.sq (ns.map .int)), .d (.int k)] ce = some (.c ce.length, ce ++ [.lst xs]) ∧ StOk 0 xs := by
  unfold f__law_stream
  by_cases h : k < ns.length
  · have ha : atI (ns.map Dt.int) (k : Int) = some (.int ns[k]) := atI_nat (by rw [List.getElem?_map, List.getElem?_eq_getElem h]; rfl)
    have hi : ixD (.sq (ns.map Dt.int)) (.int (k : Int)) = some (.int ns[k]) := ha
    generalize ns[k] = v at hi
    have hm := Int.fmod_nonneg_of_pos (if v < 0 then -v else v) (b := 2147483647) (by omega)
    have hm2 := Int.fmod_lt_of_pos (if v < 0 then -v else v) (b := 2147483647) (by omega)
    by_cases h2 : 10 ^ 18 ≤ (if v < 0 then -v else v)
    · apply cut_ev (m__law_stream ⟨[some (.d (.sq (ns.map .int))), some (.d (.int k)), none], ce⟩)
      case h =>
        unfold m__law_stream
        walk_at "go"
      case k =>
        intro ev
        exact ⟨_, zf_rt ev (trim_new rfl), _, _, _, rfl, by omega, by omega, by omega, by omega, by omega⟩
    · apply cut_ev (m__law_stream ⟨[some (.d (.sq (ns.map .int))), some (.d (.int k)), none], ce⟩)
      case h =>
        unfold m__law_stream
        walk_at "go"
      case k =>
        intro ev
        exact ⟨_, zf_rt ev (trim_new rfl), _, _, _, rfl, by omega, by omega, by omega, by omega, by omega⟩
  · apply cut_ev (m__law_stream ⟨[some (.d (.sq (ns.map .int))), some (.d (.int k)), none], ce⟩)
    case h =>
      unfold m__law_stream
      walk_at "go"
    case k =>
      intro ev
      exact ⟨_, zf_rt ev (trim_new rfl), _, _, _, rfl, by decide, by simp; omega, by simp; omega, by decide, by decide⟩
theorem take_set {ce : List Ce} {k : Nat} {c : Ce} : (ce.set k c).take ce.length = ce.set k c := List.take_of_length_le (by rw [List.length_set]; exact Nat.le_refl _)
theorem draw_ok {n : Nat} {xs : List Dt} {m : Int} {k : Nat} {ce : List Ce} (hs : StOk n xs) (hc : ce[k]? = some (.lst xs)) (hm : 1 ≤ m) (hm2 : m ≤ 1000) (hn : n ≤ 1000000000) :
    ∃ (r : Int) (ys : List Dt), f__law_draw [.c k, .d (.int m)] ce = some (.d (.int r), ce.set k (.lst ys)) ∧ 0 ≤ r ∧ r < m ∧ StOk (n + 1) ys := by
  obtain ⟨a, b, c, rfl, ha, hb, hb2, hc0, hcn⟩ := hs
  have hm0 : m ≠ 0 := by omega
  have hd : CDivN a m := ⟨hm0, by omega⟩
  unfold f__law_draw
  by_cases h : 0 < a
  · apply cut_ev (m__law_draw ⟨[some (.c k), some (.d (.int m)), none, none], ce⟩)
    case h =>
      unfold m__law_draw
      walk_at "go"
    case k =>
      intro ev
      have h1 := Int.fmod_nonneg_of_pos a (b := m) (by omega)
      have h2 := Int.fmod_lt_of_pos a (b := m) (by omega)
      have h3 : 0 ≤ a.fdiv m := Int.fdiv_nonneg ha (by omega)
      exact ⟨_, _, zf_rt ev (trim_d take_set), h1, h2, _, _, _, rfl, h3, hb, hb2, hc0, by omega⟩
  · have ha0 : a = 0 := by omega
    subst ha0
    have hp : (b + 7919 * (c + 1) + 104729).natAbs < 2 ^ 64 := by omega
    generalize hq : ((b + 7919 * (c + 1) + 104729) ^ (5 : Int).toNat).fmod 2147483647 = q
    have q1 : 0 ≤ q := by rw [← hq]; exact Int.fmod_nonneg_of_pos _ (by omega)
    have q2 : q < 2147483647 := by rw [← hq]; exact Int.fmod_lt_of_pos _ (by omega)
    have hpw : powF (.int (b + 7919 * (c + 1) + 104729)) (.int 5) = some (.int ((b + 7919 * (c + 1) + 104729) ^ (5 : Int).toNat)) := zw_pow ⟨by decide, by decide, hp⟩
    apply cut_ev (m__law_draw ⟨[some (.c k), some (.d (.int m)), none, none], ce⟩)
    case h =>
      unfold m__law_draw
      walk_at "go"
    case k =>
      intro ev
      have h1 := Int.fmod_nonneg_of_pos ((((((b + 7919 * (c + 1) + 104729) ^ (5 : Int).toNat).fmod 2147483647 + (c + 1)) * 40692).fmod 2147483629).fdiv 7) (b := m) (by omega)
      have h2 := Int.fmod_lt_of_pos ((((((b + 7919 * (c + 1) + 104729) ^ (5 : Int).toNat).fmod 2147483647 + (c + 1)) * 40692).fmod 2147483629).fdiv 7) (b := m) (by omega)
      exact ⟨_, _, zf_rt ev (trim_d take_set), h1, h2, _, _, _, rfl, by omega, hb, hb2, by omega, by omega⟩
theorem pick_ok {n : Nat} {xs as : List Dt} {k : Nat} {ce : List Ce} (hs : StOk n xs) (hc : ce[k]? = some (.lst xs)) (ha : 1 ≤ as.length) (ha2 : as.length ≤ 1000) (hn : n ≤ 1000000000) :
    ∃ (x : Dt) (ys : List Dt), f__law_pick f__law_draw [.c k, .d (.lst as)] ce = some (.d x, ce.set k (.lst ys)) ∧ x ∈ as ∧ StOk (n + 1) ys := by
  obtain ⟨r, ys, e, r0, r1, hy⟩ := draw_ok (m := (as.length : Int)) hs hc (by omega) (by omega) hn
  have hr : r.toNat < as.length := by omega
  have hx : as[r.toNat]? = some as[r.toNat] := List.getElem?_eq_getElem hr
  have hi : ixD (.lst as) (.int r) = some as[r.toNat] := by
    have h := atI_nat (xs := as) hx
    rw [Int.toNat_of_nonneg r0] at h
    exact h
  refine ⟨_, ys, ?_, List.getElem_mem hr, hy⟩
  refine zf_rt (nl := 0) (m := m__law_pick f__law_draw) (E := ⟨[some (.c k), some (.d (.lst as))], ce.set k (.lst ys)⟩) (r := .d as[r.toNat]) (zk_ret (zv_bind (zv_var rfl) (zv_bind (zv_call (zv_cons (zv_var rfl) (zv_cons (zv_fzV (zv_bind (zv_cons (zv_var rfl) zv_ret) (zv_fn1 zv_seeD zw_lenL)) zv_fzD) zv_ret)) e) (zv_ix zv_seeD zv_seeD hi)))) (trim_d take_set)
/-! ### drawn forms -/
def AtOk (as : List Dt) : Prop := 1 ≤ as.length ∧ as.length ≤ 500 ∧ ∀ x ∈ as, ∃ f, x = gd f ∧ Pl f ∧ Wx f ∧ (pre f).length = 1
theorem frz_c {k j : Nat} {d : Dt} (h : k ≠ j) : frzV j d (.c k) = .c k := by
  show (if k = j then _ else _) = _
  rw [if_neg h]
def lfM : M Vl := callM (f__law_pick f__law_draw) (consM (vM 0) (consM (fzV (ifM (Hk.bindM (Hk.bindM (callM f__law_draw (consM (vM 0) (consM (retM (.d (.int 4))) (retM [])))) fun x => Hk.bindM (retM (.d (.int 0))) (op2 eqF x)) boolM) (Hk.bindM (vM 1) fun x => Hk.bindM (lstM (consM (tupM (consM (retM (.d (.str "yes"))) (retM []))) (consM (tupM (consM (retM (.d (.str "no"))) (retM []))) (retM [])))) (addF x)) (vM 1))) (retM [])))
theorem leaf_ok {n k : Nat} {xs as : List Dt} {ce : List Ce} {r : Vl} (hs : StOk n xs) (hc : ce[k]? = some (.lst xs)) (ha : AtOk as) (hn : n ≤ 1000000) :
    ∃ (f : Fm) (ys : List Dt) (E : En), lfM ⟨[some (.c k), some (.d (.lst as)), some r, none, none], ce⟩ = some (.d (gd f), E) ∧ E.ce.take ce.length = ce.set k (.lst ys) ∧ StOk (n + 2) ys ∧ Pl f ∧ Wx f ∧ (pre f).length = 1 := by
  obtain ⟨a1, a2, a3⟩ := ha
  have hk : k < ce.length := (List.getElem?_eq_some_iff.mp hc).1
  obtain ⟨q, ys, e1, q0, q1, hy⟩ := draw_ok (m := 4) hs hc (by omega) (by omega) (by omega)
  have hc1 : (ce.set k (.lst ys))[k]? = some (.lst ys) := get_set hc
  have hl1 : (ce.set k (Ce.lst ys)).length = ce.length := List.length_set
  have d1 : callM f__law_draw (consM (vM 0) (consM (retM (.d (.int 4))) (retM []))) ⟨[some (.c k), some (.d (.lst as)), some r, none, none], ce⟩ = some (.d (.int q), ⟨[some (.c k), some (.d (.lst as)), some r, none, none], ce.set k (.lst ys)⟩) := zv_call (zv_cons (zv_var rfl) (zv_cons zv_ret zv_ret)) e1
  have t1 : (Hk.bindM (Hk.bindM (callM f__law_draw (consM (vM 0) (consM (retM (.d (.int 4))) (retM [])))) fun x => Hk.bindM (retM (.d (.int 0))) (op2 eqF x)) boolM) ⟨[some (.c k), some (.d (.lst as)), some r, none, none], ce⟩ = some (q == 0, ⟨[some (.c k), some (.d (.lst as)), some r, none, none], ce.set k (.lst ys)⟩) := zv_bind (zv_bind d1 (zv_bind zv_ret (zv_op2 zv_seeD zv_seeD (zw_eq zq_int)))) zv_bool
  by_cases hq : q = 0
  · subst hq
    have b1 : lstM (consM (tupM (consM (retM (.d (.str "yes"))) (retM []))) (consM (tupM (consM (retM (.d (.str "no"))) (retM []))) (retM []))) ⟨[some (.c k), some (.d (.lst as)), some r, none, none], ce.set k (.lst ys)⟩ = some (.c (ce.set k (Ce.lst ys)).length, ⟨[some (.c k), some (.d (.lst as)), some r, none, none], ce.set k (.lst ys) ++ [Ce.lst [.tup [.str "yes"], .tup [.str "no"]]]⟩) :=
      zv_lst (zv_cons (zv_tup (zv_cons zv_ret zv_ret) (by show 1 ≤ 100000; decide) (zv_fzA1 zv_fzD zv_fzA0)) (zv_cons (zv_tup (zv_cons zv_ret zv_ret) (by show 1 ≤ 100000; decide) (zv_fzA1 zv_fzD zv_fzA0)) zv_ret)) (by show 2 ≤ 100000; decide) (zv_fzA1 zv_fzD (zv_fzA1 zv_fzD zv_fzA0)) zv_newL
    have b2 : (Hk.bindM (vM 1) fun x => Hk.bindM (lstM (consM (tupM (consM (retM (.d (.str "yes"))) (retM []))) (consM (tupM (consM (retM (.d (.str "no"))) (retM []))) (retM [])))) (addF x)) ⟨[some (.c k), some (.d (.lst as)), some r, none, none], ce.set k (.lst ys)⟩ = some (.c (ce.set k (Ce.lst ys) ++ [Ce.lst [.tup [.str "yes"], .tup [.str "no"]]]).length, ⟨[some (.c k), some (.d (.lst as)), some r, none, none], ce.set k (.lst ys) ++ [Ce.lst [.tup [.str "yes"], .tup [.str "no"]]] ++ [Ce.lst (as ++ [.tup [.str "yes"], .tup [.str "no"]])]⟩) :=
      zv_bind (zv_var rfl) (zv_bind b1 (zv_addL zv_seeD (zv_seeC (get_new _ _)) (by show as.length + 2 ≤ 100000; omega) zv_newL))
    have b3 := zv_fzC (sl := [some (.c k), some (.d (.lst as)), some r, none, none]) (get_new (ce.set k (Ce.lst ys) ++ [Ce.lst [.tup [.str "yes"], .tup [.str "no"]]]) (Ce.lst (as ++ [.tup [.str "yes"], .tup [.str "no"]])))
    rw [set_new] at b3
    have hc2 : (ce.set k (Ce.lst ys) ++ [Ce.lst [.tup [.str "yes"], .tup [.str "no"]]] ++ [Ce.dead])[k]? = some (.lst ys) := by
      rw [List.append_assoc, List.getElem?_append_left (by omega)]
      exact hc1
    obtain ⟨x, zs, e2, hx, hz⟩ := pick_ok (as := as ++ [.tup [.str "yes"], .tup [.str "no"]]) hy hc2 (by simp) (by simp; omega) (by omega)
    have hf : ∃ f, x = gd f ∧ Pl f ∧ Wx f ∧ (pre f).length = 1 := by
      rcases List.mem_append.mp hx with hx | hx
      · exact a3 x hx
      · have hx : x = .tup [.str "yes"] ∨ x = .tup [.str "no"] := by simpa using hx
        rcases hx with rfl | rfl
        · exact ⟨.yes false, rfl, rfl, True.intro, rfl⟩
        · exact ⟨.no false, rfl, rfl, True.intro, rfl⟩
    obtain ⟨f, rfl, f1, f2, f3⟩ := hf
    refine ⟨f, zs, _, zv_call (zv_cons (zv_var rfl) (zv_cons (zv_fzV (zv_ifT t1 rfl b2) b3) zv_ret)) e2, ?_, hz, f1, f2, f3⟩
    show ((ce.set k (Ce.lst ys) ++ [Ce.lst [.tup [.str "yes"], .tup [.str "no"]]] ++ [Ce.dead]).set k (.lst zs)).take ce.length = _
    rw [List.append_assoc, List.set_append_left _ _ (by omega), List.set_set, List.take_left' (by rw [List.length_set])]
  · obtain ⟨x, zs, e2, hx, hz⟩ := pick_ok (as := as) hy hc1 a1 (by omega) (by omega)
    obtain ⟨f, rfl, f1, f2, f3⟩ := a3 x hx
    refine ⟨f, zs, _, zv_call (zv_cons (zv_var rfl) (zv_cons (zv_fzV (zv_ifF t1 (by rw [beq_eq_false_iff_ne]; exact hq) (zv_var rfl)) zv_fzD) zv_ret)) e2, ?_, hz, f1, f2, f3⟩
    show ((ce.set k (Ce.lst ys)).set k (.lst zs)).take ce.length = _
    rw [List.set_set, take_set]
abbrev FREE : Nat → Fn := f__law_free f__law_draw (f__law_pick f__law_draw)
theorem StOk.mono {n m : Nat} {xs : List Dt} (h : StOk n xs) (hm : n ≤ m) : StOk m xs := by
  obtain ⟨a, b, c, e, h1, h2, h3, h4, h5⟩ := h
  exact ⟨a, b, c, e, h1, h2, h3, h4, by omega⟩
def frT1 : M Bool := Hk.orM (Hk.bindM (Hk.bindM (vM 2) fun x => Hk.bindM (retM (.d (.int 2))) (op2 ltF x)) boolM) (Hk.bindM (Hk.bindM (callM f__law_draw (consM (vM 0) (consM (retM (.d (.int 8))) (retM [])))) fun x => Hk.bindM (retM (.d (.int 0))) (op2 eqF x)) boolM)
def frT3 : M Bool := Hk.bindM (Hk.bindM (vM 3) fun x => Hk.bindM (tupM (consM (retM (.d (.str "box"))) (consM (retM (.d (.str "not"))) (retM [])))) (op2 (inF false) x)) boolM
def frT4 : M Bool := Hk.bindM (Hk.bindM (vM 2) fun x => Hk.bindM (retM (.d (.int 3))) (op2 ltF x)) boolM
def frK : M (List Vl) := consM (retM (.d (.str "box"))) (consM (retM (.d (.str "box"))) (consM (retM (.d (.str "not"))) (consM (retM (.d (.str "and"))) (consM (retM (.d (.str "or"))) (consM (retM (.d (.str "if"))) (retM []))))))
def frU (F : Fn) : En → Option Rs := seqS (setS 3 (ifM frT3 (vM 3) (retM (.d (.str "box")))))
    (retS (tupM (consM (vM 3) (consM (callM F (consM (vM 0) (consM (fzV (vM 1)) (consM (fzV (Hk.bindM (vM 2) fun x => Hk.bindM (retM (.d (.int 1))) (op2 subF x))) (retM []))))) (retM [])))))
def frB (F : Fn) : En → Option Rs := seqS (setS 4 (Hk.bindM (retM (.d (.int 1))) fun x => Hk.bindM (callM f__law_draw (consM (vM 0) (consM (fzV (Hk.bindM (vM 2) fun x => Hk.bindM (retM (.d (.int 2))) (op2 subF x))) (retM [])))) (addF x)))
    (retS (tupM (consM (vM 3) (consM (callM F (consM (vM 0) (consM (fzV (vM 1)) (consM (fzV (vM 4)) (retM []))))) (consM (callM F (consM (vM 0) (consM (fzV (vM 1)) (consM (fzV (Hk.bindM (Hk.bindM (vM 2) fun x => Hk.bindM (retM (.d (.int 1))) (op2 subF x)) fun x => Hk.bindM (vM 4) (op2 subF x))) (retM []))))) (retM []))))))
theorem free_is (F : Fn) : m__law_free f__law_draw (f__law_pick f__law_draw) F = seqS (ifS frT1 (retS lfM) nilS)
    (seqS (setS 3 (callM (f__law_pick f__law_draw) (consM (vM 0) (consM (fzV (lstM frK)) (retM [])))))
    (seqS (ifS (Hk.orM frT3 frT4) (frU F) nilS) (frB F))) := rfl
theorem in_box {w : Str} {b : Bool} {r0 r1 r2 r4 : Option Vl} {ce : List Ce} (h : inF false (.str w) (.tup [.str "box", .str "not"]) = some (.bl b)) : frT3 ⟨[r0, r1, r2, some (.d (.str w)), r4], ce⟩ = some (b, ⟨[r0, r1, r2, some (.d (.str w)), r4], ce⟩) :=
  zv_bind (zv_bind (zv_var rfl) (zv_bind (zv_tup (zv_cons zv_ret (zv_cons zv_ret zv_ret)) (by show 2 ≤ 100000; decide) (zv_fzA1 zv_fzD (zv_fzA1 zv_fzD zv_fzA0))) (zv_op2 zv_seeD zv_seeD h))) zv_bool
theorem sub_at {i j : Int} {sl : List (Option Vl)} {ce : List Ce} {p : Nat} (h : sl[p]? = some (some (.d (.int i)))) : (Hk.bindM (vM p) fun x => Hk.bindM (retM (.d (.int j))) (op2 subF x)) ⟨sl, ce⟩ = some (.d (.int (i - j)), ⟨sl, ce⟩) :=
  zv_bind (zv_var h) (zv_bind zv_ret (zv_op2 zv_seeD zv_seeD rfl))
def FrOk (F : Fn) (s : Nat) : Prop := ∀ (n k : Nat) (xs as : List Dt) (ce : List Ce), StOk n xs → ce[k]? = some (.lst xs) → AtOk as → n + 4 * s ≤ 1000000 →
  ∃ (f : Fm) (ys : List Dt), F [.c k, .d (.lst as), .d (.int (s : Int))] ce = some (.d (gd f), ce.set k (.lst ys)) ∧ StOk (n + 4 * s) ys ∧ Pl f ∧ Wx f ∧ (pre f).length ≤ s
theorem free_un {F : Fn} {s n k : Nat} {xs as : List Dt} {ce : List Ce} {w : Str} {b : Bool} (hF : FrOk F (s - 1)) (hs1 : 2 ≤ s) (hs : StOk n xs) (hc : ce[k]? = some (.lst xs)) (ha : AtOk as) (hn : n + 4 * (s - 1) ≤ 1000000) (hb : inF false (.str w) (.tup [.str "box", .str "not"]) = some (.bl b)) (hw : b = true → w = "box" ∨ w = "not") :
    ∃ (f : Fm) (ys : List Dt) (sl : List (Option Vl)), frU F ⟨[some (.c k), some (.d (.lst as)), some (.d (.int (s : Int))), some (.d (.str w)), none], ce⟩ = some (.rt (.d (gd f)) ⟨sl, ce.set k (.lst ys)⟩) ∧ StOk (n + 4 * (s - 1)) ys ∧ Pl f ∧ Wx f ∧ (pre f).length ≤ s := by
  obtain ⟨f, ys, e1, h1, h2, h3, h4⟩ := hF _ _ _ _ _ hs hc ha hn
  have es : ((s : Int) - 1) = ((s - 1 : Nat) : Int) := by omega
  have hu : ∃ u : Un, ifM frT3 (vM 3) (retM (.d (.str "box"))) ⟨[some (.c k), some (.d (.lst as)), some (.d (.int (s : Int))), some (.d (.str w)), none], ce⟩ = some (.d (.str u.s), ⟨[some (.c k), some (.d (.lst as)), some (.d (.int (s : Int))), some (.d (.str w)), none], ce⟩) := by
    cases b with
    | true =>
      rcases hw rfl with rfl | rfl
      · exact ⟨.box, zv_ifT (in_box hb) rfl (zv_var rfl)⟩
      · exact ⟨.not, zv_ifT (in_box hb) rfl (zv_var rfl)⟩
    | false => exact ⟨.box, zv_ifF (in_box hb) rfl zv_ret⟩
  obtain ⟨u, e0⟩ := hu
  have e2 : callM F (consM (vM 0) (consM (fzV (vM 1)) (consM (fzV (Hk.bindM (vM 2) fun x => Hk.bindM (retM (.d (.int 1))) (op2 subF x))) (retM [])))) ⟨[some (.c k), some (.d (.lst as)), some (.d (.int (s : Int))), some (.d (.str u.s)), none], ce⟩ = some (.d (gd f), ⟨[some (.c k), some (.d (.lst as)), some (.d (.int (s : Int))), some (.d (.str u.s)), none], ce.set k (.lst ys)⟩) :=
    zv_call (zv_cons (zv_var rfl) (zv_cons (zv_fzV (zv_var rfl) zv_fzD) (zv_cons (zv_fzV (sub_at rfl) zv_fzD) zv_ret))) (by rw [es]; exact e1)
  exact ⟨.un false u f, ys, _, zk_seq (zk_set e0) (zk_nx (zk_ret (zv_tup (zv_cons (zv_var rfl) (zv_cons e2 zv_ret)) (by show 2 ≤ 100000; decide) (zv_fzA1 zv_fzD (zv_fzA1 zv_fzD zv_fzA0))))), h1, ⟨rfl, h2⟩, h3, by show (pre f).length + 1 ≤ s; omega⟩
theorem free_bi {F : Fn} {s n k : Nat} {xs as : List Dt} {ce : List Ce} {o : Bi} (hF : ∀ t, 1 ≤ t → t < s → FrOk F t) (hs1 : 3 ≤ s) (hs2 : s ≤ 100) (hs : StOk n xs) (hc : ce[k]? = some (.lst xs)) (ha : AtOk as) (hn : n + 4 * (s - 1) + 1 ≤ 1000000) :
    ∃ (f : Fm) (ys : List Dt) (sl : List (Option Vl)), frB F ⟨[some (.c k), some (.d (.lst as)), some (.d (.int (s : Int))), some (.d (.str o.s)), none], ce⟩ = some (.rt (.d (gd f)) ⟨sl, ce.set k (.lst ys)⟩) ∧ StOk (n + 4 * (s - 1) + 1) ys ∧ Pl f ∧ Wx f ∧ (pre f).length ≤ s := by
  obtain ⟨q, ys, e1, q0, q1, hy⟩ := draw_ok (m := (s : Int) - 2) hs hc (by omega) (by omega) (by omega)
  have hc1 : (ce.set k (.lst ys))[k]? = some (.lst ys) := get_set hc
  have d1 : (Hk.bindM (retM (.d (.int 1))) fun x => Hk.bindM (callM f__law_draw (consM (vM 0) (consM (fzV (Hk.bindM (vM 2) fun x => Hk.bindM (retM (.d (.int 2))) (op2 subF x))) (retM [])))) (addF x)) ⟨[some (.c k), some (.d (.lst as)), some (.d (.int (s : Int))), some (.d (.str o.s)), none], ce⟩ = some (.d (.int (1 + q)), ⟨[some (.c k), some (.d (.lst as)), some (.d (.int (s : Int))), some (.d (.str o.s)), none], ce.set k (.lst ys)⟩) :=
    zv_bind zv_ret (zv_bind (zv_call (zv_cons (zv_var rfl) (zv_cons (zv_fzV (sub_at rfl) zv_fzD) zv_ret)) e1) (zv_addI zv_seeD zv_seeD))
  generalize ht : (1 + q).toNat = t
  have et : 1 + q = (t : Int) := by omega
  have t1 : 1 ≤ t := by omega
  have t2 : t ≤ s - 2 := by omega
  rw [et] at d1
  obtain ⟨f, zs, e2, hz, p1, w1, l1⟩ := hF t t1 (by omega) _ _ _ _ _ hy hc1 ha (by omega)
  rw [List.set_set] at e2
  have hc2 : (ce.set k (.lst zs))[k]? = some (.lst zs) := get_set hc
  have eu : ((s : Int) - 1 - (t : Int)) = ((s - 1 - t : Nat) : Int) := by omega
  obtain ⟨g, us, e3, hu, p2, w2, l2⟩ := hF (s - 1 - t) (by omega) (by omega) _ _ _ _ _ hz hc2 ha (by omega)
  rw [List.set_set] at e3
  have c1 : callM F (consM (vM 0) (consM (fzV (vM 1)) (consM (fzV (vM 4)) (retM [])))) ⟨[some (.c k), some (.d (.lst as)), some (.d (.int (s : Int))), some (.d (.str o.s)), some (.d (.int (t : Int)))], ce.set k (.lst ys)⟩ = some (.d (gd f), ⟨[some (.c k), some (.d (.lst as)), some (.d (.int (s : Int))), some (.d (.str o.s)), some (.d (.int (t : Int)))], ce.set k (.lst zs)⟩) :=
    zv_call (zv_cons (zv_var rfl) (zv_cons (zv_fzV (zv_var rfl) zv_fzD) (zv_cons (zv_fzV (zv_var rfl) zv_fzD) zv_ret))) e2
  have c2 : callM F (consM (vM 0) (consM (fzV (vM 1)) (consM (fzV (Hk.bindM (Hk.bindM (vM 2) fun x => Hk.bindM (retM (.d (.int 1))) (op2 subF x)) fun x => Hk.bindM (vM 4) (op2 subF x))) (retM [])))) ⟨[some (.c k), some (.d (.lst as)), some (.d (.int (s : Int))), some (.d (.str o.s)), some (.d (.int (t : Int)))], ce.set k (.lst zs)⟩ = some (.d (gd g), ⟨[some (.c k), some (.d (.lst as)), some (.d (.int (s : Int))), some (.d (.str o.s)), some (.d (.int (t : Int)))], ce.set k (.lst us)⟩) :=
    zv_call (zv_cons (zv_var rfl) (zv_cons (zv_fzV (zv_var rfl) zv_fzD) (zv_cons (zv_fzV (d := .int ((s : Int) - 1 - (t : Int))) (zv_bind (sub_at rfl) (zv_bind (zv_var rfl) (zv_op2 zv_seeD zv_seeD rfl))) zv_fzD) zv_ret))) (by rw [eu]; exact e3)
  exact ⟨.bi false o f g, us, _, zk_seq (zk_set d1) (zk_nx (zk_ret (zv_tup (zv_cons (zv_var rfl) (zv_cons c1 (zv_cons c2 zv_ret))) (by show 3 ≤ 100000; decide) (zv_fzA1 zv_fzD (zv_fzA1 zv_fzD (zv_fzA1 zv_fzD zv_fzA0)))))), hu.mono (by omega), ⟨rfl, p1, p2⟩, ⟨w1, w2⟩, by show (pre f ++ pre g).length + 1 ≤ s; rw [List.length_append]; omega⟩
theorem free_ok : ∀ (fuel s : Nat), 1 ≤ s → s ≤ fuel → s ≤ 50 → FrOk (FREE fuel) s
  | 0, s, h1, h2, _ => by omega
  | fuel + 1, s, h1, h2, h3 => by
    intro n k xs as ce hs hc ha hn
    have ih : ∀ t, 1 ≤ t → t < s → FrOk (FREE fuel) t := fun t ht hts => free_ok fuel t ht (by omega) (by omega)
    have hk : k < ce.length := (List.getElem?_eq_some_iff.mp hc).1
    have key : ∀ {R : Vl} {sl : List (Option Vl)} {c2 c3 : List Ce}, m__law_free f__law_draw (f__law_pick f__law_draw) (FREE fuel) ⟨[some (.c k), some (.d (.lst as)), some (.d (.int (s : Int))), none, none], ce⟩ = some (.rt R ⟨sl, c2⟩) → trimC ce.length R c2 = some (R, c3) → FREE (fuel + 1) [.c k, .d (.lst as), .d (.int (s : Int))] ce = some (R, c3) := fun e g => zf_rt e g
    have key2 : ∀ {R : Vl} {E : En} {c3 : List Ce}, m__law_free f__law_draw (f__law_pick f__law_draw) (FREE fuel) ⟨[some (.c k), some (.d (.lst as)), some (.d (.int (s : Int))), none, none], ce⟩ = some (.rt R E) → trimC ce.length R E.ce = some (R, c3) → FREE (fuel + 1) [.c k, .d (.lst as), .d (.int (s : Int))] ce = some (R, c3) := fun e g => zf_rt e g
    rw [free_is] at key key2
    by_cases hs1 : s = 1
    · subst hs1
      obtain ⟨f, ys, E, e1, e2, hy, p, w, l⟩ := leaf_ok (r := .d (.int ((1 : Nat) : Int))) hs hc ha (by omega)
      have t : frT1 ⟨[some (.c k), some (.d (.lst as)), some (.d (.int ((1 : Nat) : Int))), none, none], ce⟩ = some (true, ⟨[some (.c k), some (.d (.lst as)), some (.d (.int ((1 : Nat) : Int))), none, none], ce⟩) :=
        zv_orT (zv_bind (zv_bind (zv_var rfl) (zv_bind zv_ret (zv_op2 zv_seeD zv_seeD (d := .bl true) rfl))) zv_bool) rfl
      exact ⟨f, ys, key2 (zk_seq (zk_ifT t rfl (zk_ret e1)) zk_rt) (trim_d e2), hy.mono (by omega), p, w, by omega⟩
    · obtain ⟨q, ys, e1, q0, q1, hy⟩ := draw_ok (m := 8) hs hc (by omega) (by omega) (by omega)
      have hc1 : (ce.set k (.lst ys))[k]? = some (.lst ys) := get_set hc
      have hlt : ltF (.int (s : Int)) (.int 2) = some (.bl false) := by
        show some (Dt.bl (decide ((s : Int) < 2))) = _
        rw [decide_eq_false (by omega)]
      have ta : (Hk.bindM (Hk.bindM (vM 2) fun x => Hk.bindM (retM (.d (.int 2))) (op2 ltF x)) boolM) ⟨[some (.c k), some (.d (.lst as)), some (.d (.int (s : Int))), none, none], ce⟩ = some (false, ⟨[some (.c k), some (.d (.lst as)), some (.d (.int (s : Int))), none, none], ce⟩) := zv_bind (zv_bind (zv_var rfl) (zv_bind zv_ret (zv_op2 zv_seeD zv_seeD hlt))) zv_bool
      have tb : (Hk.bindM (Hk.bindM (callM f__law_draw (consM (vM 0) (consM (retM (.d (.int 8))) (retM [])))) fun x => Hk.bindM (retM (.d (.int 0))) (op2 eqF x)) boolM) ⟨[some (.c k), some (.d (.lst as)), some (.d (.int (s : Int))), none, none], ce⟩ = some (q == 0, ⟨[some (.c k), some (.d (.lst as)), some (.d (.int (s : Int))), none, none], ce.set k (.lst ys)⟩) := zv_bind (zv_bind (zv_call (zv_cons (zv_var rfl) (zv_cons zv_ret zv_ret)) e1) (zv_bind zv_ret (zv_op2 zv_seeD zv_seeD (zw_eq zq_int)))) zv_bool
      have t : frT1 ⟨[some (.c k), some (.d (.lst as)), some (.d (.int (s : Int))), none, none], ce⟩ = some (q == 0, ⟨[some (.c k), some (.d (.lst as)), some (.d (.int (s : Int))), none, none], ce.set k (.lst ys)⟩) :=
        zv_orF ta rfl tb
      by_cases hq : q = 0
      · obtain ⟨f, zs, E, e2, e3, hz, p, w, l⟩ := leaf_ok (r := .d (.int (s : Int))) hy hc1 ha (by omega)
        rw [List.length_set, List.set_set] at e3
        exact ⟨f, zs, key2 (zk_seq (zk_ifT t (by rw [hq]; rfl) (zk_ret e2)) zk_rt) (trim_d e3), hz.mono (by omega), p, w, by omega⟩
      · have hl1 : (ce.set k (Ce.lst ys)).length = ce.length := List.length_set
        have b1 : lstM frK ⟨[some (.c k), some (.d (.lst as)), some (.d (.int (s : Int))), none, none], ce.set k (.lst ys)⟩ = some (.c (ce.set k (Ce.lst ys)).length, ⟨[some (.c k), some (.d (.lst as)), some (.d (.int (s : Int))), none, none], ce.set k (.lst ys) ++ [Ce.lst [.str "box", .str "box", .str "not", .str "and", .str "or", .str "if"]]⟩) :=
          zv_lst (zv_cons zv_ret (zv_cons zv_ret (zv_cons zv_ret (zv_cons zv_ret (zv_cons zv_ret (zv_cons zv_ret zv_ret)))))) (by show 6 ≤ 100000; decide) (zv_fzA1 zv_fzD (zv_fzA1 zv_fzD (zv_fzA1 zv_fzD (zv_fzA1 zv_fzD (zv_fzA1 zv_fzD (zv_fzA1 zv_fzD zv_fzA0)))))) zv_newL
        have b3 := zv_fzC (sl := [some (.c k), some (.d (.lst as)), some (.d (.int (s : Int))), none, none]) (get_new (ce.set k (Ce.lst ys)) (Ce.lst [.str "box", .str "box", .str "not", .str "and", .str "or", .str "if"]))
        have hsl : ([some (Vl.c k), some (.d (.lst as)), some (.d (.int (s : Int))), none, none] : List (Option Vl)).map (Option.map (frzV (ce.set k (Ce.lst ys)).length (.lst [.str "box", .str "box", .str "not", .str "and", .str "or", .str "if"]))) = [some (Vl.c k), some (.d (.lst as)), some (.d (.int (s : Int))), none, none] := by
          show [some (frzV (ce.set k (Ce.lst ys)).length (.lst [.str "box", .str "box", .str "not", .str "and", .str "or", .str "if"]) (.c k)), _, _, _, _] = _
          rw [frz_c (by omega)]
          rfl
        rw [set_new, hsl] at b3
        have hc2 : (ce.set k (Ce.lst ys) ++ [Ce.dead])[k]? = some (.lst ys) := by
          rw [List.getElem?_append_left (by omega)]
          exact hc1
        obtain ⟨x, zs, e2, hx, hz⟩ := pick_ok (as := [.str "box", .str "box", .str "not", .str "and", .str "or", .str "if"]) hy hc2 (by show 1 ≤ 6; decide) (by show 6 ≤ 1000; decide) (by omega)
        have eset : (ce.set k (Ce.lst ys) ++ [Ce.dead]).set k (.lst zs) = ce.set k (.lst zs) ++ [Ce.dead] := by
          rw [List.set_append_left _ _ (by omega), List.set_set]
        rw [eset] at e2
        have s3 : setS 3 (callM (f__law_pick f__law_draw) (consM (vM 0) (consM (fzV (lstM frK)) (retM [])))) ⟨[some (.c k), some (.d (.lst as)), some (.d (.int (s : Int))), none, none], ce.set k (.lst ys)⟩ = some (.nx ⟨[some (.c k), some (.d (.lst as)), some (.d (.int (s : Int))), some (.d x), none], ce.set k (.lst zs) ++ [Ce.dead]⟩) :=
          zk_set (zv_call (zv_cons (zv_var rfl) (zv_cons (zv_fzV b1 b3) zv_ret)) e2)
        have hc3 : (ce.set k (Ce.lst zs) ++ [Ce.dead])[k]? = some (.lst zs) := by
          rw [List.getElem?_append_left (by rw [List.length_set]; exact hk)]
          exact get_set hc
        have tk : ∀ us : List Dt, ((ce.set k (Ce.lst zs) ++ [Ce.dead]).set k (.lst us)).take ce.length = ce.set k (.lst us) := fun us => by
          rw [List.set_append_left _ _ (by rw [List.length_set]; exact hk), List.set_set, List.take_left' (by rw [List.length_set])]
        have hq2 : (q == 0) = false := by
          rw [beq_eq_false_iff_ne]
          exact hq
        have first : ifS frT1 (retS lfM) nilS ⟨[some (.c k), some (.d (.lst as)), some (.d (.int (s : Int))), none, none], ce⟩ = some (.nx ⟨[some (.c k), some (.d (.lst as)), some (.d (.int (s : Int))), none, none], ce.set k (.lst ys)⟩) := zk_ifF t hq2 zk_nil
        have goUn : ∀ {w : Str} {b : Bool}, x = .str w → inF false (.str w) (.tup [.str "box", .str "not"]) = some (.bl b) → (b = true → w = "box" ∨ w = "not") → (b = true ∨ s < 3) → ∃ (f : Fm) (us : List Dt), FREE (fuel + 1) [.c k, .d (.lst as), .d (.int (s : Int))] ce = some (.d (gd f), ce.set k (.lst us)) ∧ StOk (n + 4 * s) us ∧ Pl f ∧ Wx f ∧ (pre f).length ≤ s := fun {w b} ex hb hw hor => by
          subst ex
          obtain ⟨f, us, sl, e4, hu, p, v, l⟩ := free_un (ih (s - 1) (by omega) (by omega)) (by omega) hz hc3 ha (by omega) hb hw
          have hlt3 : ltF (.int (s : Int)) (.int 3) = some (.bl (decide ((s : Int) < 3))) := rfl
          have tt : Hk.orM frT3 frT4 ⟨[some (.c k), some (.d (.lst as)), some (.d (.int (s : Int))), some (.d (.str w)), none], ce.set k (.lst zs) ++ [Ce.dead]⟩ = some (true, ⟨[some (.c k), some (.d (.lst as)), some (.d (.int (s : Int))), some (.d (.str w)), none], ce.set k (.lst zs) ++ [Ce.dead]⟩) := by
            cases b with
            | true => exact zv_orT (in_box hb) rfl
            | false =>
              have h4 : s < 3 := by
                rcases hor with h | h
                · cases h
                · exact h
              have e := zv_orF (in_box (r0 := some (.c k)) (r1 := some (.d (.lst as))) (r2 := some (.d (.int (s : Int)))) (r4 := none) (ce := ce.set k (.lst zs) ++ [Ce.dead]) hb) rfl (n := frT4) (zv_bind (zv_bind (zv_var rfl) (zv_bind zv_ret (zv_op2 zv_seeD zv_seeD hlt3))) zv_bool)
              rw [decide_eq_true (by omega)] at e
              exact e
          exact ⟨f, us, key (zk_seq first (zk_nx (zk_seq s3 (zk_nx (zk_seq (zk_ifT tt rfl e4) zk_rt))))) (trim_d (tk us)), hu.mono (by omega), p, v, l⟩
        have goBi : ∀ {o : Bi}, x = .str o.s → inF false (.str o.s) (.tup [.str "box", .str "not"]) = some (.bl false) → ¬ s < 3 → ∃ (f : Fm) (us : List Dt), FREE (fuel + 1) [.c k, .d (.lst as), .d (.int (s : Int))] ce = some (.d (gd f), ce.set k (.lst us)) ∧ StOk (n + 4 * s) us ∧ Pl f ∧ Wx f ∧ (pre f).length ≤ s := fun {o} ex hb h4 => by
          subst ex
          obtain ⟨f, us, sl, e4, hu, p, v, l⟩ := free_bi (o := o) ih (by omega) (by omega) hz hc3 ha (by omega)
          have hlt3 : ltF (.int (s : Int)) (.int 3) = some (.bl (decide ((s : Int) < 3))) := rfl
          have tt : Hk.orM frT3 frT4 ⟨[some (.c k), some (.d (.lst as)), some (.d (.int (s : Int))), some (.d (.str o.s)), none], ce.set k (.lst zs) ++ [Ce.dead]⟩ = some (false, ⟨[some (.c k), some (.d (.lst as)), some (.d (.int (s : Int))), some (.d (.str o.s)), none], ce.set k (.lst zs) ++ [Ce.dead]⟩) := by
            have e := zv_orF (in_box (r0 := some (.c k)) (r1 := some (.d (.lst as))) (r2 := some (.d (.int (s : Int)))) (r4 := none) (ce := ce.set k (.lst zs) ++ [Ce.dead]) hb) rfl (n := frT4) (zv_bind (zv_bind (zv_var rfl) (zv_bind zv_ret (zv_op2 zv_seeD zv_seeD hlt3))) zv_bool)
            rw [decide_eq_false (by omega)] at e
            exact e
          exact ⟨f, us, key (zk_seq first (zk_nx (zk_seq s3 (zk_nx (zk_seq (zk_ifF tt rfl zk_nil) (zk_nx e4)))))) (trim_d (tk us)), hu.mono (by omega), p, v, l⟩
        have hx : x = .str "box" ∨ x = .str "not" ∨ x = .str "and" ∨ x = .str "or" ∨ x = .str "if" := by
          simpa using hx
        by_cases h4 : s < 3
        · rcases hx with e | e | e | e | e
          · exact goUn e (b := true) rfl (fun _ => .inl rfl) (.inl rfl)
          · exact goUn e (b := true) rfl (fun _ => .inr rfl) (.inl rfl)
          · exact goUn e (b := false) rfl (fun h => by cases h) (.inr h4)
          · exact goUn e (b := false) rfl (fun h => by cases h) (.inr h4)
          · exact goUn e (b := false) rfl (fun h => by cases h) (.inr h4)
        · rcases hx with e | e | e | e | e
          · exact goUn e (b := true) rfl (fun _ => .inl rfl) (.inl rfl)
          · exact goUn e (b := true) rfl (fun _ => .inr rfl) (.inl rfl)
          · exact goBi (o := .and) e rfl h4
          · exact goBi (o := .or) e rfl h4
          · exact goBi (o := .iff) e rfl h4
/-! ### forms compared -/
def pd : Fm → PyData
  | .yes _ => .tuple [.str "yes"]
  | .no _ => .tuple [.str "no"]
  | .letter _ s => .tuple [.str "letter", .str s]
  | .act _ s t => .tuple [.str "act", .str s, .str t]
  | .un _ u f => .tuple [.str u.s, pd f]
  | .bi _ o f g => .tuple [.str o.s, pd f, pd g]
theorem toP_dt : ∀ f : Fm, toP (dt f) = some (pd f)
  | .yes _ => rfl
  | .no _ => rfl
  | .letter _ s => rfl
  | .act _ s t => rfl
  | .un _ u f => by
    have h := toP_dt f
    simp only [dt, pd, toP, toPA, h]
    rfl
  | .bi _ o f g => by
    have h := toP_dt f
    have h2 := toP_dt g
    simp only [dt, pd, toP, toPA, h, h2]
    rfl
theorem eqv_pd : ∀ f : Fm, PyData.eqv (pd f) (pd f) = true
  | .yes _ => by simp [pd, PyData.eqv, PyData.eqvAll]
  | .no _ => by simp [pd, PyData.eqv, PyData.eqvAll]
  | .letter _ s => by simp [pd, PyData.eqv, PyData.eqvAll]
  | .act _ s t => by simp [pd, PyData.eqv, PyData.eqvAll]
  | .un _ u f => by simp [pd, PyData.eqv, PyData.eqvAll, eqv_pd f]
  | .bi _ o f g => by simp [pd, PyData.eqv, PyData.eqvAll, eqv_pd f, eqv_pd g]
theorem lay_pd : ∀ {f : Fm}, Wf f → PyData.canLay0 (pd f) = true
  | .yes _, _ => (by decide +kernel : PyData.canLay0 (.tuple [.str "yes"]) = true)
  | .no _, _ => (by decide +kernel : PyData.canLay0 (.tuple [.str "no"]) = true)
  | .letter _ s, h => by
    have h2 : PyData.strOk "letter" = true := by decide +kernel
    simp [pd, PyData.canLay0, PyData.canLayAll0, h.2, h2]
  | .act _ s t, h => by
    have h2 : PyData.strOk "act" = true := by decide +kernel
    simp [pd, PyData.canLay0, PyData.canLayAll0, h.2.1, h.2.2, h2]
  | .un _ u f, h => by
    have h2 : PyData.strOk u.s = true := by cases u <;> decide +kernel
    have h3 := lay_pd (f := f) h
    simp [pd, PyData.canLay0, PyData.canLayAll0, h2, h3]
  | .bi _ o f g, h => by
    have h2 : PyData.strOk o.s = true := by cases o <;> decide +kernel
    have h3 := lay_pd (f := f) h.1
    have h4 := lay_pd (f := g) h.2
    simp [pd, PyData.canLay0, PyData.canLayAll0, h2, h3, h4]
theorem dep_pd : ∀ f : Fm, PyData.depth (pd f) ≤ (pre f).length + 1
  | .yes _ => by simp [pd, PyData.depth, PyData.depthAll, pre]
  | .no _ => by simp [pd, PyData.depth, PyData.depthAll, pre]
  | .letter _ s => by simp [pd, PyData.depth, PyData.depthAll, pre]
  | .act _ s t => by simp [pd, PyData.depth, PyData.depthAll, pre]
  | .un _ u f => by
    have h := dep_pd f
    simp only [pd, PyData.depth, PyData.depthAll, pre, List.length_cons]
    omega
  | .bi _ o f g => by
    have h := dep_pd f
    have h2 := dep_pd g
    simp only [pd, PyData.depth, PyData.depthAll, pre, List.length_cons, List.length_append]
    omega
theorem sh_pd {f : Fm} (h : Wf f) (hl : (pre f).length ≤ 60) : SeqAt.shaped (pd f) = true := by
  have := dep_pd f
  show (PyData.canLay0 (pd f) && decide (PyData.depth (pd f) ≤ 64)) = true
  rw [lay_pd h, decide_eq_true (by omega)]
  rfl
theorem eq_dt {f : Fm} (h : Wf f) (hl : (pre f).length ≤ 60) : eqd (dt f) (dt f) = some true := by
  unfold eqd
  rw [toP_dt f]
  show (if _ then _ else _) = _
  rw [if_pos ⟨sh_pd h hl, sh_pd h hl⟩, eqv_pd f]
/-- a list of forms -/
theorem eq_dts (fs : List Fm) (h : ∀ f ∈ fs, Wf f ∧ (pre f).length ≤ 50) : eqd (.lst (fs.map dt)) (.lst (fs.map dt)) = some true := by
  have e1 : toPA (fs.map dt) = some (fs.map pd) := by
    clear h
    induction fs with
    | nil => rfl
    | cons f fs ih => simp only [List.map_cons, toPA, toP_dt f, ih]
  have e2 : PyData.eqvAll (fs.map pd) (fs.map pd) = true := by
    clear h e1
    induction fs with
    | nil => rfl
    | cons f fs ih => simp [PyData.eqvAll, eqv_pd f, ih]
  have e3 : PyData.canLayAll0 (fs.map pd) = true := by
    clear e1 e2
    induction fs with
    | nil => rfl
    | cons f fs ih => simp [PyData.canLayAll0, lay_pd (h f (List.mem_cons_self)).1, ih fun g hg => h g (List.mem_cons_of_mem _ hg)]
  have e4 : PyData.depthAll (fs.map pd) ≤ 60 := by
    clear e1 e2 e3
    induction fs with
    | nil => exact Nat.zero_le _
    | cons f fs ih =>
      have h1 := dep_pd f
      have h2 := (h f (List.mem_cons_self)).2
      have h3 := ih fun g hg => h g (List.mem_cons_of_mem _ hg)
      simp only [List.map_cons, PyData.depthAll]
      omega
  have et : toP (.lst (fs.map dt)) = some (.list (fs.map pd)) := by
    rw [toP, e1]
    rfl
  unfold eqd
  rw [et]
  show (if _ then _ else _) = _
  rw [if_pos ⟨sh_lst e3 e4, sh_lst e3 e4⟩]
  simp only [PyData.eqv, e2]
/-! ### the atoms -/
theorem sm_p : Small "p" := sm_of (by decide +kernel)
theorem sm_q : Small "q" := sm_of (by decide +kernel)
theorem sm_a : Small "a" := sm_of (by decide +kernel)
theorem sm_word : Small "word" := sm_of (by decide +kernel)
theorem sm_long : Small "abcdefgh" := sm_of (by decide +kernel)
theorem sm_me : Small "me" := sm_of (by decide +kernel)
theorem sm_him : Small "him" := sm_of (by decide +kernel)
theorem sm_abe : Small "abe" := sm_of (by decide +kernel)
theorem sm_zoe : Small "zoe" := sm_of (by decide +kernel)
theorem nm_p : NameOk "p" := name_ok sm_p rfl
theorem nm_q : NameOk "q" := name_ok sm_q rfl
theorem nm_a : NameOk "a" := name_ok sm_a rfl
theorem nm_word : NameOk "word" := name_ok sm_word rfl
theorem nm_long : NameOk "abcdefgh" := name_ok sm_long rfl
theorem wh_me : WhoOk "me" := who_ok sm_me (.inl rfl)
theorem wh_him : WhoOk "him" := who_ok sm_him (.inl rfl)
theorem wh_abe : WhoOk "abe" := who_ok sm_abe (.inr ⟨rfl, rfl⟩)
theorem wh_zoe : WhoOk "zoe" := who_ok sm_zoe (.inr ⟨rfl, rfl⟩)
theorem wx_letter {s : Str} (sm : Small s) (nm : NameOk s) (hk : PyData.strOk s = true) (h : inF false (.str s) (.tup [.str "yes", .str "no"]) = some (.bl false)) : Wx (.letter false s) := ⟨⟨nm, hk⟩, sm, lf_letter false h nm⟩
theorem wx_act {s t p : Str} (hp : mkS (wd s ++ [45] ++ wd t) = p) (h : inF false (.str p) (.tup [.str "yes", .str "no"]) = some (.bl false)) (h1 : 1 ≤ p.length) (h2 : p.length ≤ 8) (hs : Small s) (ht : Small t) (hsp : Txt.split p "-" = [s, t]) (ws : WhoOk s) (wt : WhoOk t) (k1 : PyData.strOk s = true) (k2 : PyData.strOk t = true) : Wx (.act false s t) := ⟨⟨⟨ws, wt⟩, k1, k2⟩, ⟨hs, ht⟩, lf_act false hp h h1 h2 hs ht hsp ws wt⟩
def ATOMS : List Fm := [.letter false "p", .letter false "q", .letter false "word", .act false "me" "him", .act false "him" "me", .act false "him" "abe"]
def MORE : List Fm := [.letter false "abcdefgh", .act false "me" "me", .act false "zoe" "him", .act false "abe" "zoe", .letter false "a"]
theorem wx_p : Wx (.letter false "p") := wx_letter sm_p nm_p (by decide +kernel) rfl
theorem wx_q : Wx (.letter false "q") := wx_letter sm_q nm_q (by decide +kernel) rfl
theorem wx_word : Wx (.letter false "word") := wx_letter sm_word nm_word (by decide +kernel) rfl
theorem wx_long : Wx (.letter false "abcdefgh") := wx_letter sm_long nm_long (by decide +kernel) rfl
theorem wx_a : Wx (.letter false "a") := wx_letter sm_a nm_a (by decide +kernel) rfl
theorem wx_me_him : Wx (.act false "me" "him") := wx_act (p := "me-him") (by decide +kernel) rfl (by decide +kernel) (by decide +kernel) sm_me sm_him (by decide +kernel) wh_me wh_him (by decide +kernel) (by decide +kernel)
theorem wx_him_me : Wx (.act false "him" "me") := wx_act (p := "him-me") (by decide +kernel) rfl (by decide +kernel) (by decide +kernel) sm_him sm_me (by decide +kernel) wh_him wh_me (by decide +kernel) (by decide +kernel)
theorem wx_him_abe : Wx (.act false "him" "abe") := wx_act (p := "him-abe") (by decide +kernel) rfl (by decide +kernel) (by decide +kernel) sm_him sm_abe (by decide +kernel) wh_him wh_abe (by decide +kernel) (by decide +kernel)
theorem wx_me_me : Wx (.act false "me" "me") := wx_act (p := "me-me") (by decide +kernel) rfl (by decide +kernel) (by decide +kernel) sm_me sm_me (by decide +kernel) wh_me wh_me (by decide +kernel) (by decide +kernel)
theorem wx_zoe_him : Wx (.act false "zoe" "him") := wx_act (p := "zoe-him") (by decide +kernel) rfl (by decide +kernel) (by decide +kernel) sm_zoe sm_him (by decide +kernel) wh_zoe wh_him (by decide +kernel) (by decide +kernel)
theorem wx_abe_zoe : Wx (.act false "abe" "zoe") := wx_act (p := "abe-zoe") (by decide +kernel) rfl (by decide +kernel) (by decide +kernel) sm_abe sm_zoe (by decide +kernel) wh_abe wh_zoe (by decide +kernel) (by decide +kernel)
theorem atoms_at : AtOk ((ATOMS ++ MORE).map gd) := by
  refine ⟨by show 1 ≤ 11; decide, by show 11 ≤ 500; decide, fun x hx => ?_⟩
  obtain ⟨f, hf, rfl⟩ := List.mem_map.mp hx
  simp only [ATOMS, MORE, List.cons_append, List.nil_append, List.mem_cons, List.not_mem_nil, or_false] at hf
  rcases hf with rfl | rfl | rfl | rfl | rfl | rfl | rfl | rfl | rfl | rfl | rfl
  · exact ⟨_, rfl, rfl, wx_p, rfl⟩
  · exact ⟨_, rfl, rfl, wx_q, rfl⟩
  · exact ⟨_, rfl, rfl, wx_word, rfl⟩
  · exact ⟨_, rfl, rfl, wx_me_him, rfl⟩
  · exact ⟨_, rfl, rfl, wx_him_me, rfl⟩
  · exact ⟨_, rfl, rfl, wx_him_abe, rfl⟩
  · exact ⟨_, rfl, rfl, wx_long, rfl⟩
  · exact ⟨_, rfl, rfl, wx_me_me, rfl⟩
  · exact ⟨_, rfl, rfl, wx_zoe_him, rfl⟩
  · exact ⟨_, rfl, rfl, wx_abe_zoe, rfl⟩
  · exact ⟨_, rfl, rfl, wx_a, rfl⟩
theorem atoms_ok (ce : List Ce) : f__law_atoms [] ce = some (.c ce.length, ce ++ [.lst (ATOMS.map gd)]) := by
  refine zf_rt (nl := 1) (m := m__law_atoms) (E := ⟨[some (.c ce.length)], ce ++ [.lst ((ATOMS.take 4).map gd)] ++ [.lst ((ATOMS.drop 4).map gd)] ++ [.lst (ATOMS.map gd)]⟩) (r := .c (ce ++ [Ce.lst ((ATOMS.take 4).map gd)] ++ [Ce.lst ((ATOMS.drop 4).map gd)]).length)
    (zk_seq (Q := .nx ⟨[some (.c ce.length)], ce ++ [.lst ((ATOMS.take 4).map gd)]⟩) (zk_set (zv_lst (zv_cons (zv_tup (zv_cons zv_ret (zv_cons zv_ret zv_ret)) (by show 2 ≤ 100000; decide) (zv_fzA1 zv_fzD (zv_fzA1 zv_fzD zv_fzA0))) (zv_cons (zv_tup (zv_cons zv_ret (zv_cons zv_ret zv_ret)) (by show 2 ≤ 100000; decide) (zv_fzA1 zv_fzD (zv_fzA1 zv_fzD zv_fzA0))) (zv_cons (zv_tup (zv_cons zv_ret (zv_cons zv_ret zv_ret)) (by show 2 ≤ 100000; decide) (zv_fzA1 zv_fzD (zv_fzA1 zv_fzD zv_fzA0))) (zv_cons (zv_tup (zv_cons zv_ret (zv_cons zv_ret (zv_cons zv_ret zv_ret))) (by show 3 ≤ 100000; decide) (zv_fzA1 zv_fzD (zv_fzA1 zv_fzD (zv_fzA1 zv_fzD zv_fzA0)))) zv_ret)))) (by show 4 ≤ 100000; decide) (zv_fzA1 zv_fzD (zv_fzA1 zv_fzD (zv_fzA1 zv_fzD (zv_fzA1 zv_fzD zv_fzA0)))) zv_newL)) (zk_nx (zk_ret (zv_bind (zv_var rfl) (zv_bind (a := .c (ce ++ [Ce.lst ((ATOMS.take 4).map gd)]).length) (E1 := ⟨[some (.c ce.length)], ce ++ [.lst ((ATOMS.take 4).map gd)] ++ [.lst ((ATOMS.drop 4).map gd)]⟩) (zv_lst (zv_cons (zv_tup (zv_cons zv_ret (zv_cons zv_ret (zv_cons zv_ret zv_ret))) (by show 3 ≤ 100000; decide) (zv_fzA1 zv_fzD (zv_fzA1 zv_fzD (zv_fzA1 zv_fzD zv_fzA0)))) (zv_cons (zv_tup (zv_cons zv_ret (zv_cons zv_ret (zv_cons zv_ret zv_ret))) (by show 3 ≤ 100000; decide) (zv_fzA1 zv_fzD (zv_fzA1 zv_fzD (zv_fzA1 zv_fzD zv_fzA0)))) zv_ret)) (by show 2 ≤ 100000; decide) (zv_fzA1 zv_fzD (zv_fzA1 zv_fzD zv_fzA0)) zv_newL) (zv_addL (zv_seeC (get_mid _ _ _)) (zv_seeC (get_new _ _)) (by show 6 ≤ 100000; decide) zv_newL)))))) ?_
  show (if _ < _ then _ else _) = _
  rw [if_neg (by simp)]
  show (match (ce ++ [Ce.lst ((ATOMS.take 4).map gd)] ++ [Ce.lst ((ATOMS.drop 4).map gd)] ++ [Ce.lst (ATOMS.map gd)])[(ce ++ [Ce.lst ((ATOMS.take 4).map gd)] ++ [Ce.lst ((ATOMS.drop 4).map gd)]).length]? with
    | some c => some (Vl.c ce.length, (ce ++ [Ce.lst ((ATOMS.take 4).map gd)] ++ [Ce.lst ((ATOMS.drop 4).map gd)] ++ [Ce.lst (ATOMS.map gd)]).take ce.length ++ [c])
    | none => none) = _
  rw [get_new]
  simp
/-! ### the law -/
abbrev F20 : Fn := FREE 20
abbrev L20 : Fn := LT 20
abbrev ATF : Fn := f__law_atoms
def tpM (s t : Str) : M Vl := tupM (consM (retM (.d (.str s))) (consM (retM (.d (.str t))) (retM [])))
def tp3M (s t u : Str) : M Vl := tupM (consM (retM (.d (.str s))) (consM (retM (.d (.str t))) (consM (retM (.d (.str u))) (retM []))))
def tM3 : M Vl := lstM (consM (tpM "letter" "abcdefgh") (consM (tp3M "act" "me" "me") (consM (tp3M "act" "zoe" "him") (retM []))))
def tM2 : M Vl := bmM "list" (vM 3) (consM (lstM (consM (tp3M "act" "abe" "zoe") (consM (tpM "letter" "a") (retM [])))) (retM [])) extF
def tAt : M Vl := Hk.bindM (callM ATF (retM [])) fun x => Hk.bindM (vM 3) (addF x)
def tFr : M Vl := callM F20 (consM (vM 2) (consM (fzV tAt) (consM (retM (.d (.int 16))) (retM []))))
def tTx : M Vl := methM "Saying" "text" TEXT (makeM "Saying" INIT (consM (fzV (vM 4)) (retM []))) (retM [])
def tRd : M Vl := callM READ (consM (retM (.d (.cls "Saying"))) (consM (fzV (vM 5)) (retM [])))
def tA : M Bool := Hk.bindM (Hk.bindM (vM 5) fun x => Hk.bindM (callM L20 (consM (fzV (vM 4)) (retM []))) (op2 neF x)) boolM
def tB : M Bool := Hk.bindM (Hk.bindM (methM "Saying" "form" f_Saying_form tRd (retM [])) fun x => Hk.bindM (vM 4) (op2 neF x)) boolM
def tC : M Bool := Hk.bindM (Hk.bindM (methM "Saying" "text" TEXT tRd (retM [])) fun x => Hk.bindM (vM 5) (op2 neF x)) boolM
def turnS : En → Option Rs :=
    (seqS (setS 2 (callM f__law_stream (consM (fzV (vM 0)) (consM (fzV (vM 1)) (retM [])))))
    (seqS (setS 3 tM3)
    (seqS (dropS tM2)
    (seqS (setS 4 tFr)
    (seqS (setS 5 tTx)
    (ifS (Hk.orM tA (Hk.orM tB tC)) (retS (retM (.d (.bl false)))) nilS))))))
def endS : En → Option Rs := (retS (Hk.bindM (Hk.bindM (methM "Saying" "form" f_Saying_form (callM READ (consM (retM (.d (.cls "Saying"))) (consM (retM (.d (.str "(#(#p > p) > ~me-him)"))) (retM [])))) (retM [])) fun x => Hk.bindM (retM (.d (.int 2))) (ixF x)) fun x => Hk.bindM (tupM (consM (retM (.d (.str "not"))) (consM (tp3M "act" "me" "him") (retM [])))) (op2 eqF x)))
theorem law_is : m_law f__law_stream F20 ATF TEXT INIT L20 f_Saying_form READ = (seqS (forS (rng1M (consM (retM (.d (.int 8))) (retM []))) (nameG 1) turnS) endS) := rfl
theorem see_app {ce L : List Ce} {x : Vl} {d : Dt} (h : see ce x = some d) : see (ce ++ L) x = some d := by
  cases x with
  | d e => exact h
  | t rs => exact h
  | c k =>
    obtain ⟨c, hk, h2⟩ := seeC_some (show (ce[k]?).bind dataC = some d from h)
    have hl := (List.getElem?_eq_some_iff.mp hk).1
    exact zv_seeX (c := c) (by rw [List.getElem?_append_left hl]; exact hk) h2
theorem zv_ext {E : En} {mo : M Vl} {ma : M (List Vl)} {c : Nat} {r : Vl} {as0 acc ds : List Dt} {sl sl2 : List (Option Vl)} {ce ce2 : List Ce} (ho : mo E = some (.c c, ⟨sl, ce⟩)) (h0 : see ce (.c c) = some (.lst as0)) (ha : ma ⟨sl, ce⟩ = some ([r], ⟨sl2, ce2⟩)) (hr : see ce2 r = some (.lst ds)) (h3 : ce2[c]? = some (.lst acc)) (hl : acc.length + ds.length ≤ 100000) :
    bmM "list" mo ma extF E = some (.d .non, ⟨sl2, ce2.set c (.lst (acc ++ ds))⟩) := by
  refine zv_bind ho ?_
  show (match see ce (.c c) with
    | some d => if tyB "list" d = true then (Hk.bindM ma fun xs => extF (.c c) xs) ⟨sl, ce⟩ else none
    | none => none) = _
  rw [h0]
  refine zv_bind (m := ma) ha ?_
  show (match see ce2 r with
    | some (.lst ds) => onC (fun acc => if acc.length + ds.length ≤ 100000 then some (.non, acc ++ ds) else none) (.c c) ⟨sl2, ce2⟩
    | _ => none) = _
  rw [hr]
  show (match ce2[c]? with
    | some (.lst xs) => match (if xs.length + ds.length ≤ 100000 then some (Dt.non, xs ++ ds) else none) with
      | some (d, ys) => some (Vl.d d, (⟨sl2, ce2.set c (.lst ys)⟩ : En))
      | none => none
    | _ => none) = _
  rw [h3]
  simp only [if_pos hl]
theorem tp_ok {s t : Str} {E : En} : tpM s t E = some (.d (.tup [.str s, .str t]), E) := zv_tup (zv_cons zv_ret (zv_cons zv_ret zv_ret)) (by show 2 ≤ 100000; decide) (zv_fzA1 zv_fzD (zv_fzA1 zv_fzD zv_fzA0))
theorem tp3_ok {s t u : Str} {E : En} : tp3M s t u E = some (.d (.tup [.str s, .str t, .str u]), E) := zv_tup (zv_cons zv_ret (zv_cons zv_ret (zv_cons zv_ret zv_ret))) (by show 3 ≤ 100000; decide) (zv_fzA1 zv_fzD (zv_fzA1 zv_fzD (zv_fzA1 zv_fzD zv_fzA0)))
theorem tl_chars : ∀ {f : Fm}, Ws f → ∀ c ∈ tl f, c < 1000 := fun {f} => by
  have leaf : ∀ {f : Fm}, pcs f = [tl f] → Ws f → ∀ c ∈ tl f, c < 1000 := fun hp hw c hc => by
    rcases (tl_word hw hp).1 c hc with ⟨_, q⟩ | q <;> omega
  induction f with
  | yes b => exact leaf rfl
  | no b => exact leaf rfl
  | letter b s => exact leaf rfl
  | act b s t => exact leaf rfl
  | un b u f ih =>
    intro h c hc
    rcases List.mem_cons.mp (show c ∈ u.c :: tl f from hc) with rfl | hc
    · cases u <;> decide
    · exact ih h c hc
  | bi b o f g ihf ihg =>
    intro h c hc
    have hc : c ∈ 40 :: (tl f ++ o.m ++ tl g ++ [41]) := hc
    simp only [List.mem_cons, List.mem_append, List.not_mem_nil, or_false, Bi.m] at hc
    rcases hc with rfl | ((hc | rfl | rfl | rfl) | hc) | rfl
    · decide
    · exact ihf h.1 c hc
    · decide
    · cases o <;> decide
    · decide
    · exact ihg h.2 c hc
    · decide
theorem tx_eq {f : Fm} (h : Ws f) : neF (txD f) (txD f) = some (.bl false) := zw_ne (k := true) (by
  have hs := strOk_mk (tl_chars h)
  show eqd (.str (tx f)) (.str (tx f)) = _
  rw [show tx f = mkS (tl f) from rfl, zq_str hs hs, decide_eq_true rfl])
def TurnP (s : Dt) : Nat → En → Prop := fun _ E => ∃ x1 x2 x3 x4 x5, E.sl = [some (.d s), x1, x2, x3, x4, x5]
theorem free16 : FrOk F20 16 := free_ok 20 16 (by decide) (by decide) (by decide)
theorem tTest {S : Dt} {y1 y2 y3 : Option Vl} {f : Fm} {X : List Ce} (hw : Wx f) (hp : Pl f) (hl : (pre f).length ≤ 16) : ∃ X2, Hk.orM tA (Hk.orM tB tC) ⟨[some (.d S), y1, y2, y3, some (.d (dt f)), some (.d (txD f))], X⟩ = some (false, ⟨[some (.d S), y1, y2, y3, some (.d (dt f)), some (.d (txD f))], X2⟩) := by
  have a1 : callM L20 (consM (fzV (vM 4)) (retM [])) ⟨[some (.d S), y1, y2, y3, some (.d (dt f)), some (.d (txD f))], X⟩ = some (.d (txD f), ⟨[some (.d S), y1, y2, y3, some (.d (dt f)), some (.d (txD f))], X⟩) := zv_call (G := L20) (zv_cons (zv_fzV (zv_var rfl) zv_fzD) zv_ret) (lt_ok 20 f hw.ws (by omega) (by omega) X)
  have t1 : tA ⟨[some (.d S), y1, y2, y3, some (.d (dt f)), some (.d (txD f))], X⟩ = some (false, ⟨[some (.d S), y1, y2, y3, some (.d (dt f)), some (.d (txD f))], X⟩) := zv_bind (zv_bind (zv_var rfl) (zv_bind a1 (zv_op2 zv_seeD zv_seeD (tx_eq hw.ws)))) zv_bool
  have rd : ∀ (X : List Ce), tRd ⟨[some (.d S), y1, y2, y3, some (.d (dt f)), some (.d (txD f))], X⟩ = some (.c X.length, ⟨[some (.d S), y1, y2, y3, some (.d (dt f)), some (.d (txD f))], X ++ [sayC f]⟩) := fun X => zv_call (G := READ) (zv_cons zv_ret (zv_cons (zv_fzV (zv_var rfl) zv_fzD) zv_ret)) (read_ok hw.wf hp hw.ws hw.lv (by omega) X)
  have a2 : methM "Saying" "form" f_Saying_form tRd (retM []) ⟨[some (.d S), y1, y2, y3, some (.d (dt f)), some (.d (txD f))], X⟩ = some (.d (dt f), ⟨[some (.d S), y1, y2, y3, some (.d (dt f)), some (.d (txD f))], X ++ [sayC f]⟩) := zv_meth (rd X) Say.new rfl zv_ret (form_ok Say.new)
  have t2 : tB ⟨[some (.d S), y1, y2, y3, some (.d (dt f)), some (.d (txD f))], X⟩ = some (false, ⟨[some (.d S), y1, y2, y3, some (.d (dt f)), some (.d (txD f))], X ++ [sayC f]⟩) := zv_bind (zv_bind a2 (zv_bind (zv_var rfl) (zv_op2 zv_seeD zv_seeD (zw_ne (k := true) (eq_dt hw.wf (by omega)))))) zv_bool
  have a3 : methM "Saying" "text" TEXT tRd (retM []) ⟨[some (.d S), y1, y2, y3, some (.d (dt f)), some (.d (txD f))], X ++ [sayC f]⟩ = some (.d (txD f), ⟨[some (.d S), y1, y2, y3, some (.d (dt f)), some (.d (txD f))], X ++ [sayC f] ++ [sayC f]⟩) := zv_meth (rd (X ++ [sayC f])) Say.new rfl zv_ret (text_ok Say.new hw.ws (by omega))
  have t3 : tC ⟨[some (.d S), y1, y2, y3, some (.d (dt f)), some (.d (txD f))], X ++ [sayC f]⟩ = some (false, ⟨[some (.d S), y1, y2, y3, some (.d (dt f)), some (.d (txD f))], X ++ [sayC f] ++ [sayC f]⟩) := zv_bind (zv_bind a3 (zv_bind (zv_var rfl) (zv_op2 zv_seeD zv_seeD (tx_eq hw.ws)))) zv_bool
  exact ⟨_, zv_orF t1 rfl (zv_orF t2 rfl t3)⟩
theorem lturn_ok {ns : List Int} {i : Nat} {E : En} (hi : i < 8) (hP : TurnP (.sq (ns.map .int)) i E) : ∃ E1 E2, nameG 1 (.d (.int (0 + (i : Int)))) E = some E1 ∧ turnS E1 = some (.nx E2) ∧ TurnP (.sq (ns.map .int)) (i + 1) E2 := by
  obtain ⟨sl, ce⟩ := E
  obtain ⟨x1, x2, x3, x4, x5, hsl⟩ := hP
  have hsl : sl = [some (.d (.sq (ns.map .int))), x1, x2, x3, x4, x5] := hsl
  subst hsl
  generalize hS : Dt.sq (ns.map .int) = S
  obtain ⟨xs, e1, st⟩ := stream_ok ns i ce (by omega)
  rw [hS] at e1
  have e0 : setS 2 (callM f__law_stream (consM (fzV (vM 0)) (consM (fzV (vM 1)) (retM [])))) ⟨[some (.d S), some (.d (.int (i : Int))), x2, x3, x4, x5], ce⟩ = some (.nx ⟨[some (.d S), some (.d (.int (i : Int))), some (.c (ce.length + 0)), x3, x4, x5], ce ++ [.lst xs]⟩) :=
    zk_set (zv_call (zv_cons (zv_fzV (zv_var rfl) zv_fzD) (zv_cons (zv_fzV (zv_var rfl) zv_fzD) zv_ret)) e1)
  have b1 : setS 3 tM3 ⟨[some (.d S), some (.d (.int (i : Int))), some (.c (ce.length + 0)), x3, x4, x5], ce ++ [.lst xs]⟩ = some (.nx ⟨[some (.d S), some (.d (.int (i : Int))), some (.c (ce.length + 0)), some (.c (ce.length + 1)), x4, x5], ce ++ [.lst xs, .lst ((MORE.take 3).map gd)]⟩) := by
    have h : tM3 ⟨[some (.d S), some (.d (.int (i : Int))), some (.c (ce.length + 0)), x3, x4, x5], ce ++ [.lst xs]⟩ = some (.c (ce ++ [Ce.lst xs]).length, ⟨[some (.d S), some (.d (.int (i : Int))), some (.c (ce.length + 0)), x3, x4, x5], ce ++ [.lst xs] ++ [.lst ((MORE.take 3).map gd)]⟩) := zv_lst (zv_cons tp_ok (zv_cons tp3_ok (zv_cons tp3_ok zv_ret))) (by show 3 ≤ 100000; decide) (zv_fzA1 zv_fzD (zv_fzA1 zv_fzD (zv_fzA1 zv_fzD zv_fzA0))) zv_newL
    rw [zk_set h]
    simp
  have b2 : dropS tM2 ⟨[some (.d S), some (.d (.int (i : Int))), some (.c (ce.length + 0)), some (.c (ce.length + 1)), x4, x5], ce ++ [.lst xs, .lst ((MORE.take 3).map gd)]⟩ = some (.nx ⟨[some (.d S), some (.d (.int (i : Int))), some (.c (ce.length + 0)), some (.c (ce.length + 1)), x4, x5], ce ++ [.lst xs, .lst (MORE.map gd), .lst ((MORE.drop 3).map gd)]⟩) := by
    have h1 : (consM (lstM (consM (tp3M "act" "abe" "zoe") (consM (tpM "letter" "a") (retM [])))) (retM [])) ⟨[some (.d S), some (.d (.int (i : Int))), some (.c (ce.length + 0)), some (.c (ce.length + 1)), x4, x5], ce ++ [.lst xs, .lst ((MORE.take 3).map gd)]⟩ = some ([.c (ce ++ [Ce.lst xs, .lst ((MORE.take 3).map gd)]).length], ⟨[some (.d S), some (.d (.int (i : Int))), some (.c (ce.length + 0)), some (.c (ce.length + 1)), x4, x5], ce ++ [.lst xs, .lst ((MORE.take 3).map gd)] ++ [.lst ((MORE.drop 3).map gd)]⟩) := zv_cons (zv_lst (zv_cons tp3_ok (zv_cons tp_ok zv_ret)) (by show 2 ≤ 100000; decide) (zv_fzA1 zv_fzD (zv_fzA1 zv_fzD zv_fzA0)) zv_newL) zv_ret
    have hc : (ce ++ [Ce.lst xs, .lst ((MORE.take 3).map gd)] ++ [.lst ((MORE.drop 3).map gd)])[ce.length + 1]? = some (.lst ((MORE.take 3).map gd)) := by
      rw [List.append_assoc]
      exact get_L (i := 1) rfl
    have h := zv_ext (zv_var (i := 3) (sl := [some (.d S), some (.d (.int (i : Int))), some (.c (ce.length + 0)), some (.c (ce.length + 1)), x4, x5]) rfl) (zv_seeC (get_L (i := 1) (L := [Ce.lst xs, .lst ((MORE.take 3).map gd)]) rfl)) h1 (zv_seeC (get_new _ _)) hc (by show 3 + 2 ≤ 100000; decide)
    refine (zk_drop (m := tM2) h).trans ?_
    rw [List.append_assoc ce, set_L]
    rfl
  have c1 : tAt ⟨[some (.d S), some (.d (.int (i : Int))), some (.c (ce.length + 0)), some (.c (ce.length + 1)), x4, x5], ce ++ [.lst xs, .lst (MORE.map gd), .lst ((MORE.drop 3).map gd)]⟩ = some (.c (ce.length + 4), ⟨[some (.d S), some (.d (.int (i : Int))), some (.c (ce.length + 0)), some (.c (ce.length + 1)), x4, x5], ce ++ [.lst xs, .lst (MORE.map gd), .lst ((MORE.drop 3).map gd), .lst (ATOMS.map gd), .lst ((ATOMS ++ MORE).map gd)]⟩) := by
    have h1 : callM ATF (retM []) ⟨[some (.d S), some (.d (.int (i : Int))), some (.c (ce.length + 0)), some (.c (ce.length + 1)), x4, x5], ce ++ [.lst xs, .lst (MORE.map gd), .lst ((MORE.drop 3).map gd)]⟩ = some (.c (ce ++ [Ce.lst xs, .lst (MORE.map gd), .lst ((MORE.drop 3).map gd)]).length, ⟨[some (.d S), some (.d (.int (i : Int))), some (.c (ce.length + 0)), some (.c (ce.length + 1)), x4, x5], ce ++ [.lst xs, .lst (MORE.map gd), .lst ((MORE.drop 3).map gd)] ++ [.lst (ATOMS.map gd)]⟩) := zv_call (G := ATF) zv_ret (atoms_ok _)
    have hs : see (ce ++ [Ce.lst xs, .lst (MORE.map gd), .lst ((MORE.drop 3).map gd)] ++ [Ce.lst (ATOMS.map gd)]) (.c (ce.length + 1)) = some (.lst (MORE.map gd)) := see_app (zv_seeC (get_L (i := 1) rfl))
    have h : tAt ⟨[some (.d S), some (.d (.int (i : Int))), some (.c (ce.length + 0)), some (.c (ce.length + 1)), x4, x5], ce ++ [.lst xs, .lst (MORE.map gd), .lst ((MORE.drop 3).map gd)]⟩ = some (.c (ce ++ [Ce.lst xs, .lst (MORE.map gd), .lst ((MORE.drop 3).map gd)] ++ [Ce.lst (ATOMS.map gd)]).length, ⟨[some (.d S), some (.d (.int (i : Int))), some (.c (ce.length + 0)), some (.c (ce.length + 1)), x4, x5], ce ++ [.lst xs, .lst (MORE.map gd), .lst ((MORE.drop 3).map gd)] ++ [.lst (ATOMS.map gd)] ++ [.lst (ATOMS.map gd ++ MORE.map gd)]⟩) := zv_bind h1 (zv_bind (zv_var rfl) (zv_addL (zv_seeC (get_new _ _)) hs (by show 6 + 5 ≤ 100000; decide) zv_newL))
    rw [h]
    try simp
  have c2 := zv_fzC (sl := [some (.d S), some (.d (.int (i : Int))), some (.c (ce.length + 0)), some (.c (ce.length + 1)), x4, x5]) (k := ce.length + 4) (get_L (ce := ce) (L := [.lst xs, .lst (MORE.map gd), .lst ((MORE.drop 3).map gd), .lst (ATOMS.map gd), .lst ((ATOMS ++ MORE).map gd)]) (i := 4) rfl)
  rw [set_L] at c2
  have hm : ([some (.d S), some (.d (.int (i : Int))), some (.c (ce.length + 0)), some (.c (ce.length + 1)), x4, x5] : List (Option Vl)).map (Option.map (frzV (ce.length + 4) (.lst ((ATOMS ++ MORE).map gd)))) = [some (.d S), some (.d (.int (i : Int))), some (.c (ce.length + 0)), some (.c (ce.length + 1)), x4.map (frzV (ce.length + 4) (.lst ((ATOMS ++ MORE).map gd))), x5.map (frzV (ce.length + 4) (.lst ((ATOMS ++ MORE).map gd)))] := by
    have n0 : ¬ (ce.length + 0 = ce.length + 4) := by omega
    have n1 : ¬ (ce.length + 1 = ce.length + 4) := by omega
    show [some (Vl.d S), some (.d (.int (i : Int))), some (if ce.length + 0 = ce.length + 4 then _ else .c (ce.length + 0)), some (if ce.length + 1 = ce.length + 4 then _ else .c (ce.length + 1)), _, _] = _
    rw [if_neg n0, if_neg n1]
  rw [hm] at c2
  generalize x4.map (frzV (ce.length + 4) (.lst ((ATOMS ++ MORE).map gd))) = y4 at c2
  generalize x5.map (frzV (ce.length + 4) (.lst ((ATOMS ++ MORE).map gd))) = y5 at c2
  have c3 : fzV tAt ⟨[some (.d S), some (.d (.int (i : Int))), some (.c (ce.length + 0)), some (.c (ce.length + 1)), x4, x5], ce ++ [.lst xs, .lst (MORE.map gd), .lst ((MORE.drop 3).map gd)]⟩ = some (.d (.lst ((ATOMS ++ MORE).map gd)), ⟨[some (.d S), some (.d (.int (i : Int))), some (.c (ce.length + 0)), some (.c (ce.length + 1)), y4, y5], ce ++ [.lst xs, .lst (MORE.map gd), .lst ((MORE.drop 3).map gd), .lst (ATOMS.map gd), .dead]⟩) := zv_fzV c1 c2
  obtain ⟨f, ys, e2, hy, hp, hw, hl⟩ := free16 0 (ce.length + 0) xs ((ATOMS ++ MORE).map gd) (ce ++ [.lst xs, .lst (MORE.map gd), .lst ((MORE.drop 3).map gd), .lst (ATOMS.map gd), .dead]) st (get_L (i := 0) rfl) atoms_at (by decide)
  generalize (ce ++ [Ce.lst xs, .lst (MORE.map gd), .lst ((MORE.drop 3).map gd), .lst (ATOMS.map gd), .dead]).set (ce.length + 0) (.lst ys) = X at e2
  rw [Pl.eq hp] at e2
  have e3 : setS 4 tFr ⟨[some (.d S), some (.d (.int (i : Int))), some (.c (ce.length + 0)), some (.c (ce.length + 1)), x4, x5], ce ++ [.lst xs, .lst (MORE.map gd), .lst ((MORE.drop 3).map gd)]⟩ = some (.nx ⟨[some (.d S), some (.d (.int (i : Int))), some (.c (ce.length + 0)), some (.c (ce.length + 1)), some (.d (dt f)), y5], X⟩) := zk_set (zv_call (G := F20) (zv_cons (zv_var rfl) (zv_cons c3 (zv_cons zv_ret zv_ret))) e2)
  have d1 : (consM (fzV (vM 4)) (retM [])) ⟨[some (.d S), some (.d (.int (i : Int))), some (.c (ce.length + 0)), some (.c (ce.length + 1)), some (.d (dt f)), y5], X⟩ = some ([.d (gd f)], ⟨[some (.d S), some (.d (.int (i : Int))), some (.c (ce.length + 0)), some (.c (ce.length + 1)), some (.d (dt f)), y5], X⟩) := by
    rw [Pl.eq hp]
    exact zv_cons (zv_fzV (zv_var rfl) zv_fzD) zv_ret
  have d2 := make_ok hw.wf (by omega) d1
  have d3 : tTx ⟨[some (.d S), some (.d (.int (i : Int))), some (.c (ce.length + 0)), some (.c (ce.length + 1)), some (.d (dt f)), y5], X⟩ = some (.d (txD f), ⟨[some (.d S), some (.d (.int (i : Int))), some (.c (ce.length + 0)), some (.c (ce.length + 1)), some (.d (dt f)), y5], X ++ [sayC f]⟩) := zv_meth d2 Say.new rfl zv_ret (text_ok Say.new hw.ws (by omega))
  have e4 : setS 5 tTx ⟨[some (.d S), some (.d (.int (i : Int))), some (.c (ce.length + 0)), some (.c (ce.length + 1)), some (.d (dt f)), y5], X⟩ = some (.nx ⟨[some (.d S), some (.d (.int (i : Int))), some (.c (ce.length + 0)), some (.c (ce.length + 1)), some (.d (dt f)), some (.d (txD f))], X ++ [sayC f]⟩) := zk_set d3
  obtain ⟨X2, e5⟩ := tTest (S := S) (y1 := some (.d (.int (i : Int)))) (y2 := some (.c (ce.length + 0))) (y3 := some (.c (ce.length + 1))) (X := X ++ [sayC f]) hw hp hl
  have et : turnS ⟨[some (.d S), some (.d (.int (i : Int))), x2, x3, x4, x5], ce⟩ = some (.nx ⟨[some (.d S), some (.d (.int (i : Int))), some (.c (ce.length + 0)), some (.c (ce.length + 1)), some (.d (dt f)), some (.d (txD f))], X2⟩) :=
    zk_seq e0 (zk_nx (zk_seq b1 (zk_nx (zk_seq b2 (zk_nx (zk_seq e3 (zk_nx (zk_seq e4 (zk_nx (zk_ifF e5 rfl zk_nil))))))))))
  rw [show (0 + (i : Int)) = (i : Int) by omega]
  exact ⟨_, _, zg_name, et, _, _, _, _, _, rfl⟩
def G0 : Fm := .un false .not (.act false "me" "him")
def F0 : Fm := .bi false .iff (.un false .box (.bi false .iff (.un false .box (.letter false "p")) (.letter false "p"))) G0
theorem wx0 : Wx F0 := ⟨⟨wx_p, wx_p⟩, wx_me_him⟩
theorem end_ok {sl : List (Option Vl)} {ce : List Ce} : ∃ ce2, endS ⟨sl, ce⟩ = some (.rt (.d (.bl true)) ⟨sl, ce2⟩) := by
  have ht : Vl.d (.str "(#(#p > p) > ~me-him)") = .d (txD F0) := by
    have h : ("(#(#p > p) > ~me-him)" : Str) = tx F0 := by decide +kernel
    show Vl.d (.str _) = .d (.str (tx F0))
    rw [h]
  have a1 : callM READ (consM (retM (.d (.cls "Saying"))) (consM (retM (.d (.str "(#(#p > p) > ~me-him)"))) (retM []))) ⟨sl, ce⟩ = some (.c ce.length, ⟨sl, ce ++ [sayC F0]⟩) := by
    rw [ht]
    exact zv_call (G := READ) (zv_cons zv_ret (zv_cons zv_ret zv_ret)) (read_ok wx0.wf ⟨rfl, ⟨rfl, rfl, ⟨rfl, rfl⟩, rfl⟩, rfl, rfl⟩ wx0.ws wx0.lv (by decide) ce)
  have a2 : methM "Saying" "form" f_Saying_form (callM READ (consM (retM (.d (.cls "Saying"))) (consM (retM (.d (.str "(#(#p > p) > ~me-him)"))) (retM [])))) (retM []) ⟨sl, ce⟩ = some (.d (dt F0), ⟨sl, ce ++ [sayC F0]⟩) := zv_meth a1 Say.new rfl zv_ret (form_ok Say.new)
  have a3 : tupM (consM (retM (.d (.str "not"))) (consM (tp3M "act" "me" "him") (retM []))) ⟨sl, ce ++ [sayC F0]⟩ = some (.d (dt G0), ⟨sl, ce ++ [sayC F0]⟩) := zv_tup (zv_cons zv_ret (zv_cons tp3_ok zv_ret)) (by show 2 ≤ 100000; decide) (zv_fzA1 zv_fzD (zv_fzA1 zv_fzD zv_fzA0))
  have hq : eqF (dt G0) (dt G0) = some (.bl true) := zw_eq (eq_dt wx_me_him.wf (by decide))
  refine ⟨ce ++ [sayC F0], zk_ret (zv_bind (zv_bind a2 (zv_bind zv_ret (zv_ix zv_seeD zv_seeD (d := dt G0) rfl))) (zv_bind a3 (zv_op2 zv_seeD zv_seeD hq)))⟩
theorem law_true (ns : List Int) : f_law f__law_stream F20 ATF TEXT INIT L20 f_Saying_form READ [.d (.sq (ns.map .int))] [] = some (.d (.bl true), []) := by
  obtain ⟨E2, e1, p⟩ := for_inv (g := nameG 1) (m := turnS) (TurnP (.sq (ns.map .int))) (rngL 0 8) 0 ⟨[some (.d (.sq (ns.map .int))), none, none, none, none, none], []⟩ ⟨none, none, none, none, none, rfl⟩ fun i d E hd hp => by
    obtain ⟨h1, rfl⟩ := rng_at hd
    rw [Nat.zero_add] at hp ⊢
    exact lturn_ok h1 hp
  have a2 : rng1M (consM (retM (.d (.int 8))) (retM [])) ⟨[some (.d (.sq (ns.map .int))), none, none, none, none, none], []⟩ = some (rngL 0 8, ⟨[some (.d (.sq (ns.map .int))), none, none, none, none, none], []⟩) := zv_rng1 (zv_cons zv_ret zv_ret) (by decide)
  obtain ⟨sl2, ce2⟩ := E2
  obtain ⟨ce3, e3⟩ := end_ok (sl := sl2) (ce := ce2)
  have h : m_law f__law_stream F20 ATF TEXT INIT L20 f_Saying_form READ ⟨[some (.d (.sq (ns.map .int))), none, none, none, none, none], []⟩ = some (.rt (.d (.bl true)) ⟨sl2, ce3⟩) := by
    rw [law_is]
    exact zk_seq (zk_for a2 e1) (zk_nx e3)
  exact zf_rt (nl := 5) (m := m_law f__law_stream F20 ATF TEXT INIT L20 f_Saying_form READ) h (trim_d (List.take_zero ..))
theorem all_mk {l : PySem.W.OpenLaw} {w : World} {K : PySem.W.Frag} {h : Heap} {mg : Str → Option Value} {fa : Addr} (X : K.In h) (G : h.Ns mainGlobals mg) (hfa : mg "law" = some (.ref fa))
    {f1 f2 f3 f4 f5 f6 f7 f8 f9 f10 f11 f12 f13 f14 f15 f16 f17 f18 f19 f20 f21 f22 f23 f24 f25 f26 f27 f28 e1 x8 x1 x2 x3 x4 x5 x7 q19 : Addr}
    {rc19 : List Value}
    {od1 an1 od2 an2 od3 an3 od4 an4 od5 an5 od6 an6 od7 an7 od8 an8 od9 an9 od10 an10 od11 an11 od12 an12 od13 an13 od14 an14 od15 an15 od16 an16 od17 an17 od18 an18 od19 an19 od20 an20 od21 an21 od22 an22 od23 an23 od24 an24 od25 an25 od26 an26 od27 an27 od28 an28 xd8 : Option Addr}
    {sl1 sl2 sl3 sl4 sl5 sl6 sl7 sl8 sl9 sl10 sl11 sl12 sl13 sl14 sl15 sl16 sl17 sl18 sl19 sl20 sl21 sl22 sl23 sl24 sl25 sl26 sl27 sl28 xs8 : Array (Option Value)}
    {oc1 kV1 dc1 pm1 cd1 ct1 oc2 kV2 dc2 pm2 cd2 ct2 oc3 kV3 dc3 pm3 cd3 ct3 oc4 kV4 dc4 pm4 cd4 ct4 oc5 kV5 dc5 pm5 cd5 ct5 oc6 kV6 dc6 pm6 cd6 ct6 oc7 kV7 dc7 pm7 cd7 ct7 oc8 kV8 dc8 pm8 cd8 ct8 oc9 kV9 dc9 pm9 cd9 ct9 oc10 kV10 dc10 pm10 cd10 ct10 oc11 kV11 dc11 pm11 cd11 ct11 oc12 kV12 dc12 pm12 cd12 ct12 oc13 kV13 dc13 pm13 cd13 ct13 oc14 kV14 dc14 pm14 cd14 ct14 oc15 kV15 dc15 pm15 cd15 ct15 oc16 kV16 dc16 pm16 cd16 ct16 oc17 kV17 dc17 pm17 cd17 ct17 oc18 kV18 dc18 pm18 cd18 ct18 oc19 kV19 dc19 pm19 cd19 ct19 oc20 kV20 dc20 pm20 cd20 ct20 oc21 kV21 dc21 pm21 cd21 ct21 oc22 kV22 dc22 pm22 cd22 ct22 oc23 kV23 dc23 pm23 cd23 ct23 oc24 kV24 dc24 pm24 cd24 ct24 oc25 kV25 dc25 pm25 cd25 ct25 oc26 kV26 dc26 pm26 cd26 ct26 oc27 kV27 dc27 pm27 cd27 ct27 oc28 kV28 dc28 pm28 cd28 ct28 : Value}
    {xn8 xn1 xn2 xn3 xn4 xn5 xn7 : Nat}
    {es1 es2 es3 es4 es5 es7 : Array DictEntry}
    {t1_0 t1_1 t1_2 t1_3 t1_4 t1_5 t1_6 t1_7 t1_8 t2_0 t2_1 s2_0 s2_1 t3_0 t3_1 t3_2 s3_0 s3_1 s3_2 t4_0 t4_1 s4_0 s4_1 t5_0 t5_1 t5_2 s5_0 s5_1 s5_2 t6 t7_0 t7_1 t7_2 t7_3 t7_4 t7_5 t7_6 t7_7 t7_8 t8_0 t8_1 t8_2 t8_3 t8_4 t9 : Tok}
    (g1 : PySem.W.nsIn K mainGlobals "Saying" = some (some (.ref e1)))
    (p1_0 : PySem.W.plainGet K e1 Str.empty = true)
    (p1_1 : PySem.W.hasDictIn K e1 = true)
    (p1_2 : PySem.W.plainOver K e1 = true)
    (p1_3 : PySem.W.findIn K (.ref e1) "__setattr__" = some (some (.builtin "object.__setattr__")))
    (p1_4 : PySem.W.findIn K (.ref e1) "__class__" = some (some (.builtin "object.__class__")))
    (p1_5 : PySem.W.specialIn K (.builtin "object.__class__") "__get__" = some (some (.builtin "getset_descriptor.__get__")))
    (p1_6 : PySem.W.takesIn K (.builtin "object.__class__") = some true)
    (p1_7 : PySem.W.mroIn K e1 (.type "object") = some true)
    (p1_8 : PySem.W.selfFirst K e1 = true)
    (p1_9 : PySem.W.makesIn K e1 = true)
    (p1_10 : PySem.W.keepIn K (.ref e1) = true)
    (n1__form : PySem.W.findIn K (.ref e1) "_form" = some none)
    (n1__signs : PySem.W.findIn K (.ref e1) "_signs" = some none)
    (a1 : PySem.W.nsIn K mainGlobals "is_small" = some (some (.ref f1)))
    (l1 : K.lookup f1 = some ⟨oc1, od1, .func (PySem.W.fnOf "is_small" "is_small" (defArgs s_is_small) (defBody s_is_small) (defScope s_is_small) .none kV1 dc1 pm1 an1 cd1 ct1), sl1⟩)
    (c1 : PySem.W.codeIn K cd1 "is_small" = true)
    (k1 : PySem.W.keepIn K (.ref f1) = true)
    (a2 : PySem.W.nsIn K mainGlobals "is_word" = some (some (.ref f2)))
    (l2 : K.lookup f2 = some ⟨oc2, od2, .func (PySem.W.fnOf "is_word" "is_word" (defArgs s_is_word) (defBody s_is_word) (defScope s_is_word) .none kV2 dc2 pm2 an2 cd2 ct2), sl2⟩)
    (c2 : PySem.W.codeIn K cd2 "is_word" = true)
    (k2 : PySem.W.keepIn K (.ref f2) = true)
    (a3 : PySem.W.nsIn K mainGlobals "is_name" = some (some (.ref f3)))
    (l3 : K.lookup f3 = some ⟨oc3, od3, .func (PySem.W.fnOf "is_name" "is_name" (defArgs s_is_name) (defBody s_is_name) (defScope s_is_name) .none kV3 dc3 pm3 an3 cd3 ct3), sl3⟩)
    (c3 : PySem.W.codeIn K cd3 "is_name" = true)
    (k3 : PySem.W.keepIn K (.ref f3) = true)
    (a4 : PySem.W.nsIn K mainGlobals "is_who" = some (some (.ref f4)))
    (l4 : K.lookup f4 = some ⟨oc4, od4, .func (PySem.W.fnOf "is_who" "is_who" (defArgs s_is_who) (defBody s_is_who) (defScope s_is_who) .none kV4 dc4 pm4 an4 cd4 ct4), sl4⟩)
    (c4 : PySem.W.codeIn K cd4 "is_who" = true)
    (k4 : PySem.W.keepIn K (.ref f4) = true)
    (a5 : PySem.W.nsIn K mainGlobals "wrong_in" = some (some (.ref f5)))
    (l5 : K.lookup f5 = some ⟨oc5, od5, .func (PySem.W.fnOf "wrong_in" "wrong_in" (defArgs s_wrong_in) (defBody s_wrong_in) (defScope s_wrong_in) .none kV5 dc5 pm5 an5 cd5 ct5), sl5⟩)
    (c5 : PySem.W.codeIn K cd5 "wrong_in" = true)
    (k5 : PySem.W.keepIn K (.ref f5) = true)
    (a6 : PySem.W.nsIn K mainGlobals "items_of" = some (some (.ref f6)))
    (l6 : K.lookup f6 = some ⟨oc6, od6, .func (PySem.W.fnOf "items_of" "items_of" (defArgs s_items_of) (defBody s_items_of) (defScope s_items_of) .none kV6 dc6 pm6 an6 cd6 ct6), sl6⟩)
    (c6 : PySem.W.codeIn K cd6 "items_of" = true)
    (k6 : PySem.W.keepIn K (.ref f6) = true)
    (a7 : PySem.W.nsIn K mainGlobals "built" = some (some (.ref f7)))
    (l7 : K.lookup f7 = some ⟨oc7, od7, .func (PySem.W.fnOf "built" "built" (defArgs s_built) (defBody s_built) (defScope s_built) .none kV7 dc7 pm7 an7 cd7 ct7), sl7⟩)
    (c7 : PySem.W.codeIn K cd7 "built" = true)
    (k7 : PySem.W.keepIn K (.ref f7) = true)
    (a8 : PySem.W.nsIn K mainGlobals "signs_of" = some (some (.ref f8)))
    (l8 : K.lookup f8 = some ⟨oc8, od8, .func (PySem.W.fnOf "signs_of" "signs_of" (defArgs s_signs_of) (defBody s_signs_of) (defScope s_signs_of) .none kV8 dc8 pm8 an8 cd8 ct8), sl8⟩)
    (c8 : PySem.W.codeIn K cd8 "signs_of" = true)
    (k8 : PySem.W.keepIn K (.ref f8) = true)
    (a9 : PySem.W.nsIn K mainGlobals "text_with" = some (some (.ref f9)))
    (l9 : K.lookup f9 = some ⟨oc9, od9, .func (PySem.W.fnOf "text_with" "text_with" (defArgs s_text_with) (defBody s_text_with) (defScope s_text_with) .none kV9 dc9 pm9 an9 cd9 ct9), sl9⟩)
    (c9 : PySem.W.codeIn K cd9 "text_with" = true)
    (k9 : PySem.W.keepIn K (.ref f9) = true)
    (a10 : PySem.W.nsIn K mainGlobals "texts_of" = some (some (.ref f10)))
    (l10 : K.lookup f10 = some ⟨oc10, od10, .func (PySem.W.fnOf "texts_of" "texts_of" (defArgs s_texts_of) (defBody s_texts_of) (defScope s_texts_of) .none kV10 dc10 pm10 an10 cd10 ct10), sl10⟩)
    (c10 : PySem.W.codeIn K cd10 "texts_of" = true)
    (k10 : PySem.W.keepIn K (.ref f10) = true)
    (a11 : PySem.W.nsIn K mainGlobals "piece_at" = some (some (.ref f11)))
    (l11 : K.lookup f11 = some ⟨oc11, od11, .func (PySem.W.fnOf "piece_at" "piece_at" (defArgs s_piece_at) (defBody s_piece_at) (defScope s_piece_at) .none kV11 dc11 pm11 an11 cd11 ct11), sl11⟩)
    (c11 : PySem.W.codeIn K cd11 "piece_at" = true)
    (k11 : PySem.W.keepIn K (.ref f11) = true)
    (a12 : PySem.W.nsIn K mainGlobals "pieces_of" = some (some (.ref f12)))
    (l12 : K.lookup f12 = some ⟨oc12, od12, .func (PySem.W.fnOf "pieces_of" "pieces_of" (defArgs s_pieces_of) (defBody s_pieces_of) (defScope s_pieces_of) .none kV12 dc12 pm12 an12 cd12 ct12), sl12⟩)
    (c12 : PySem.W.codeIn K cd12 "pieces_of" = true)
    (k12 : PySem.W.keepIn K (.ref f12) = true)
    (a13 : PySem.W.nsIn K mainGlobals "leaf" = some (some (.ref f13)))
    (l13 : K.lookup f13 = some ⟨oc13, od13, .func (PySem.W.fnOf "leaf" "leaf" (defArgs s_leaf) (defBody s_leaf) (defScope s_leaf) .none kV13 dc13 pm13 an13 cd13 ct13), sl13⟩)
    (c13 : PySem.W.codeIn K cd13 "leaf" = true)
    (k13 : PySem.W.keepIn K (.ref f13) = true)
    (a14 : PySem.W.nsIn K mainGlobals "are_forms" = some (some (.ref f14)))
    (l14 : K.lookup f14 = some ⟨oc14, od14, .func (PySem.W.fnOf "are_forms" "are_forms" (defArgs s_are_forms) (defBody s_are_forms) (defScope s_are_forms) .none kV14 dc14 pm14 an14 cd14 ct14), sl14⟩)
    (c14 : PySem.W.codeIn K cd14 "are_forms" = true)
    (k14 : PySem.W.keepIn K (.ref f14) = true)
    (a15 : PySem.W.nsIn K mainGlobals "prefixed" = some (some (.ref f15)))
    (l15 : K.lookup f15 = some ⟨oc15, od15, .func (PySem.W.fnOf "prefixed" "prefixed" (defArgs s_prefixed) (defBody s_prefixed) (defScope s_prefixed) .none kV15 dc15 pm15 an15 cd15 ct15), sl15⟩)
    (c15 : PySem.W.codeIn K cd15 "prefixed" = true)
    (k15 : PySem.W.keepIn K (.ref f15) = true)
    (a16 : PySem.W.nsIn K mainGlobals "bracketed" = some (some (.ref f16)))
    (l16 : K.lookup f16 = some ⟨oc16, od16, .func (PySem.W.fnOf "bracketed" "bracketed" (defArgs s_bracketed) (defBody s_bracketed) (defScope s_bracketed) .none kV16 dc16 pm16 an16 cd16 ct16), sl16⟩)
    (c16 : PySem.W.codeIn K cd16 "bracketed" = true)
    (k16 : PySem.W.keepIn K (.ref f16) = true)
    (a17 : PySem.W.nsIn K mainGlobals "form_of" = some (some (.ref f17)))
    (l17 : K.lookup f17 = some ⟨oc17, od17, .func (PySem.W.fnOf "form_of" "form_of" (defArgs s_form_of) (defBody s_form_of) (defScope s_form_of) .none kV17 dc17 pm17 an17 cd17 ct17), sl17⟩)
    (c17 : PySem.W.codeIn K cd17 "form_of" = true)
    (k17 : PySem.W.keepIn K (.ref f17) = true)
    (a18 : PySem.W.findIn K (.ref e1) "__init__" = some (some (.ref f18)))
    (b18 : PySem.W.isFn K (.ref f18) = true)
    (l18 : K.lookup f18 = some ⟨oc18, od18, .func (PySem.W.fnOf "__init__" "Saying.__init__" (defArgs s_Saying___init__) (defBody s_Saying___init__) (defScope s_Saying___init__) .none kV18 dc18 pm18 an18 cd18 ct18), sl18⟩)
    (c18 : PySem.W.codeIn K cd18 "Saying.__init__" = true)
    (k18 : PySem.W.keepIn K (.ref f18) = true)
    (r19_0 : PySem.W.readsIn K e1 (.type "type") = true)
    (r19_1 : PySem.W.specialIn K (.ref e1) "__getattribute__" = some (some (.builtin "type.__getattribute__")))
    (r19_2 : PySem.W.findCls K (.ref e1) (.type "type") "read" = some (.get (.builtin "classmethod.__get__") (.ref q19) .none (.ref e1)))
    (r19_3 : PySem.W.recIn K q19 "classmethod" = some (.ref f19 :: rc19))
    (r19_4 : PySem.W.fnIn K f19 = true)
    (l19 : K.lookup f19 = some ⟨oc19, od19, .func (PySem.W.fnOf "read" "Saying.read" (defArgs s_Saying_read) (defBody s_Saying_read) (defScope s_Saying_read) .none kV19 dc19 pm19 an19 cd19 ct19), sl19⟩)
    (c19 : PySem.W.codeIn K cd19 "Saying.read" = true)
    (k19 : PySem.W.keepIn K (.ref f19) = true)
    (a20 : PySem.W.findIn K (.ref e1) "form" = some (some (.ref f20)))
    (b20 : PySem.W.isFn K (.ref f20) = true)
    (l20 : K.lookup f20 = some ⟨oc20, od20, .func (PySem.W.fnOf "form" "Saying.form" (defArgs s_Saying_form) (defBody s_Saying_form) (defScope s_Saying_form) .none kV20 dc20 pm20 an20 cd20 ct20), sl20⟩)
    (c20 : PySem.W.codeIn K cd20 "Saying.form" = true)
    (k20 : PySem.W.keepIn K (.ref f20) = true)
    (a21 : PySem.W.findIn K (.ref e1) "text" = some (some (.ref f21)))
    (b21 : PySem.W.isFn K (.ref f21) = true)
    (l21 : K.lookup f21 = some ⟨oc21, od21, .func (PySem.W.fnOf "text" "Saying.text" (defArgs s_Saying_text) (defBody s_Saying_text) (defScope s_Saying_text) .none kV21 dc21 pm21 an21 cd21 ct21), sl21⟩)
    (c21 : PySem.W.codeIn K cd21 "Saying.text" = true)
    (k21 : PySem.W.keepIn K (.ref f21) = true)
    (a22 : PySem.W.nsIn K mainGlobals "_law_stream" = some (some (.ref f22)))
    (l22 : K.lookup f22 = some ⟨oc22, od22, .func (PySem.W.fnOf "_law_stream" "_law_stream" (defArgs s__law_stream) (defBody s__law_stream) (defScope s__law_stream) .none kV22 dc22 pm22 an22 cd22 ct22), sl22⟩)
    (c22 : PySem.W.codeIn K cd22 "_law_stream" = true)
    (k22 : PySem.W.keepIn K (.ref f22) = true)
    (a23 : PySem.W.nsIn K mainGlobals "_law_draw" = some (some (.ref f23)))
    (l23 : K.lookup f23 = some ⟨oc23, od23, .func (PySem.W.fnOf "_law_draw" "_law_draw" (defArgs s__law_draw) (defBody s__law_draw) (defScope s__law_draw) .none kV23 dc23 pm23 an23 cd23 ct23), sl23⟩)
    (c23 : PySem.W.codeIn K cd23 "_law_draw" = true)
    (k23 : PySem.W.keepIn K (.ref f23) = true)
    (a24 : PySem.W.nsIn K mainGlobals "_law_pick" = some (some (.ref f24)))
    (l24 : K.lookup f24 = some ⟨oc24, od24, .func (PySem.W.fnOf "_law_pick" "_law_pick" (defArgs s__law_pick) (defBody s__law_pick) (defScope s__law_pick) .none kV24 dc24 pm24 an24 cd24 ct24), sl24⟩)
    (c24 : PySem.W.codeIn K cd24 "_law_pick" = true)
    (k24 : PySem.W.keepIn K (.ref f24) = true)
    (a25 : PySem.W.nsIn K mainGlobals "_law_text" = some (some (.ref f25)))
    (l25 : K.lookup f25 = some ⟨oc25, od25, .func (PySem.W.fnOf "_law_text" "_law_text" (defArgs s__law_text) (defBody s__law_text) (defScope s__law_text) .none kV25 dc25 pm25 an25 cd25 ct25), sl25⟩)
    (c25 : PySem.W.codeIn K cd25 "_law_text" = true)
    (k25 : PySem.W.keepIn K (.ref f25) = true)
    (a26 : PySem.W.nsIn K mainGlobals "_law_atoms" = some (some (.ref f26)))
    (l26 : K.lookup f26 = some ⟨oc26, od26, .func (PySem.W.fnOf "_law_atoms" "_law_atoms" (defArgs s__law_atoms) (defBody s__law_atoms) (defScope s__law_atoms) .none kV26 dc26 pm26 an26 cd26 ct26), sl26⟩)
    (c26 : PySem.W.codeIn K cd26 "_law_atoms" = true)
    (k26 : PySem.W.keepIn K (.ref f26) = true)
    (a27 : PySem.W.nsIn K mainGlobals "_law_free" = some (some (.ref f27)))
    (l27 : K.lookup f27 = some ⟨oc27, od27, .func (PySem.W.fnOf "_law_free" "_law_free" (defArgs s__law_free) (defBody s__law_free) (defScope s__law_free) .none kV27 dc27 pm27 an27 cd27 ct27), sl27⟩)
    (c27 : PySem.W.codeIn K cd27 "_law_free" = true)
    (k27 : PySem.W.keepIn K (.ref f27) = true)
    (a28 : PySem.W.nsIn K mainGlobals "law" = some (some (.ref f28)))
    (l28 : K.lookup f28 = some ⟨oc28, od28, .func (PySem.W.fnOf "law" "law" (defArgs s_law) (defBody s_law) (defScope s_law) .none kV28 dc28 pm28 an28 cd28 ct28), sl28⟩)
    (c28 : PySem.W.codeIn K cd28 "law" = true)
    (k28 : PySem.W.keepIn K (.ref f28) = true)
    (u1 : PySem.W.nsIn K mainGlobals "FORMS_IN" = some (some (.ref x1)))
    (v1 : K.lookup x1 = some ⟨.type "dict", none, .dict es1 xn1, #[]⟩)
    (w1 : PySem.W.KeysLit w.params es1.toList)
    (y1 : (x1 == sysModules) = false)
    (i1_0 : PySem.W.nsIn K x1 "yes" = some (some (.int 0 t1_0)))
    (i1_1 : PySem.W.nsIn K x1 "no" = some (some (.int 0 t1_1)))
    (i1_2 : PySem.W.nsIn K x1 "letter" = some (some (.int 0 t1_2)))
    (i1_3 : PySem.W.nsIn K x1 "act" = some (some (.int 0 t1_3)))
    (i1_4 : PySem.W.nsIn K x1 "not" = some (some (.int 1 t1_4)))
    (i1_5 : PySem.W.nsIn K x1 "and" = some (some (.int 2 t1_5)))
    (i1_6 : PySem.W.nsIn K x1 "or" = some (some (.int 2 t1_6)))
    (i1_7 : PySem.W.nsIn K x1 "if" = some (some (.int 2 t1_7)))
    (i1_8 : PySem.W.nsIn K x1 "box" = some (some (.int 1 t1_8)))
    (u2 : PySem.W.nsIn K mainGlobals "AHEAD_WORDS" = some (some (.ref x2)))
    (v2 : K.lookup x2 = some ⟨.type "dict", none, .dict es2 xn2, #[]⟩)
    (w2 : PySem.W.KeysLit w.params es2.toList)
    (y2 : (x2 == sysModules) = false)
    (i2_0 : PySem.W.nsIn K x2 "~" = some (some (.str "not" t2_0)))
    (i2_1 : PySem.W.nsIn K x2 "#" = some (some (.str "box" t2_1)))
    (j2 : es2.toList.map (·.key) = [.str "~" s2_0, .str "#" s2_1])
    (u3 : PySem.W.nsIn K mainGlobals "BETWEEN_WORDS" = some (some (.ref x3)))
    (v3 : K.lookup x3 = some ⟨.type "dict", none, .dict es3 xn3, #[]⟩)
    (w3 : PySem.W.KeysLit w.params es3.toList)
    (y3 : (x3 == sysModules) = false)
    (i3_0 : PySem.W.nsIn K x3 " & " = some (some (.str "and" t3_0)))
    (i3_1 : PySem.W.nsIn K x3 " | " = some (some (.str "or" t3_1)))
    (i3_2 : PySem.W.nsIn K x3 " > " = some (some (.str "if" t3_2)))
    (j3 : es3.toList.map (·.key) = [.str " & " s3_0, .str " | " s3_1, .str " > " s3_2])
    (u4 : PySem.W.nsIn K mainGlobals "AHEAD" = some (some (.ref x4)))
    (v4 : K.lookup x4 = some ⟨.type "dict", none, .dict es4 xn4, #[]⟩)
    (w4 : PySem.W.KeysLit w.params es4.toList)
    (y4 : (x4 == sysModules) = false)
    (i4_0 : PySem.W.nsIn K x4 "not" = some (some (.str "~" t4_0)))
    (i4_1 : PySem.W.nsIn K x4 "box" = some (some (.str "#" t4_1)))
    (j4 : es4.toList.map (·.key) = [.str "not" s4_0, .str "box" s4_1])
    (u5 : PySem.W.nsIn K mainGlobals "BETWEEN" = some (some (.ref x5)))
    (v5 : K.lookup x5 = some ⟨.type "dict", none, .dict es5 xn5, #[]⟩)
    (w5 : PySem.W.KeysLit w.params es5.toList)
    (y5 : (x5 == sysModules) = false)
    (i5_0 : PySem.W.nsIn K x5 "and" = some (some (.str " & " t5_0)))
    (i5_1 : PySem.W.nsIn K x5 "or" = some (some (.str " | " t5_1)))
    (i5_2 : PySem.W.nsIn K x5 "if" = some (some (.str " > " t5_2)))
    (j5 : es5.toList.map (·.key) = [.str "and" s5_0, .str "or" s5_1, .str "if" s5_2])
    (u6 : PySem.W.nsIn K mainGlobals "MOST_SIGNS" = some (some (.int 100000 t6)))
    (u7 : PySem.W.nsIn K mainGlobals "WORDS_IN" = some (some (.ref x7)))
    (v7 : K.lookup x7 = some ⟨.type "dict", none, .dict es7 xn7, #[]⟩)
    (w7 : PySem.W.KeysLit w.params es7.toList)
    (y7 : (x7 == sysModules) = false)
    (i7_0 : PySem.W.nsIn K x7 "yes" = some (some (.int 0 t7_0)))
    (i7_1 : PySem.W.nsIn K x7 "no" = some (some (.int 0 t7_1)))
    (i7_2 : PySem.W.nsIn K x7 "letter" = some (some (.int 1 t7_2)))
    (i7_3 : PySem.W.nsIn K x7 "act" = some (some (.int 2 t7_3)))
    (i7_4 : PySem.W.nsIn K x7 "not" = some (some (.int 0 t7_4)))
    (i7_5 : PySem.W.nsIn K x7 "and" = some (some (.int 0 t7_5)))
    (i7_6 : PySem.W.nsIn K x7 "or" = some (some (.int 0 t7_6)))
    (i7_7 : PySem.W.nsIn K x7 "if" = some (some (.int 0 t7_7)))
    (i7_8 : PySem.W.nsIn K x7 "box" = some (some (.int 0 t7_8)))
    (u8 : PySem.W.nsIn K mainGlobals "KEPT_WORDS" = some (some (.ref x8)))
    (v8 : K.lookup x8 = some ⟨.type "tuple", xd8, .seq #[.str "yes" t8_0, .str "no" t8_1, .str "me" t8_2, .str "him" t8_3, .str "x" t8_4] xn8, xs8⟩)
    (u9 : PySem.W.nsIn K mainGlobals "LONGEST_WORD" = some (some (.int 8 t9)))
    (z_abs : PySem.W.nsIn K mainGlobals "abs" = some none)
    (z_all : PySem.W.nsIn K mainGlobals "all" = some none)
    (z_int : PySem.W.nsIn K mainGlobals "int" = some none)
    (z_isinstance : PySem.W.nsIn K mainGlobals "isinstance" = some none)
    (z_len : PySem.W.nsIn K mainGlobals "len" = some none)
    (z_list : PySem.W.nsIn K mainGlobals "list" = some none)
    (z_range : PySem.W.nsIn K mainGlobals "range" = some none)
    (z_str : PySem.W.nsIn K mainGlobals "str" = some none)
    (z_tuple : PySem.W.nsIn K mainGlobals "tuple" = some none)
    : ∃ fd : FuncData, (∀ (s : Shared) (v : Value), BindsTo s fd ⟨[v], []⟩ [("_law_script", v)]) ∧ ∀ base : Heap, K.In base → base.Ns mainGlobals mg → FnOk l.prog w K mg base CX0 23 fa fd ["_law_script"] (spLaw K) := by
  have e := hfa.symm.trans (PySem.W.mg_of X G a28)
  cases e
  have E1 : clA K "Saying" = e1 := by
    unfold clA
    rw [g1]
  subst E1
  have F1 := fun_mk (st := s_is_small) l1 c1 k1
  have F2 := fun_mk (st := s_is_word) l2 c2 k2
  have F3 := fun_mk (st := s_is_name) l3 c3 k3
  have F4 := fun_mk (st := s_is_who) l4 c4 k4
  have F5 := fun_mk (st := s_wrong_in) l5 c5 k5
  have F6 := fun_mk (st := s_items_of) l6 c6 k6
  have F7 := fun_mk (st := s_built) l7 c7 k7
  have F8 := fun_mk (st := s_signs_of) l8 c8 k8
  have F9 := fun_mk (st := s_text_with) l9 c9 k9
  have F10 := fun_mk (st := s_texts_of) l10 c10 k10
  have F11 := fun_mk (st := s_piece_at) l11 c11 k11
  have F12 := fun_mk (st := s_pieces_of) l12 c12 k12
  have F13 := fun_mk (st := s_leaf) l13 c13 k13
  have F14 := fun_mk (st := s_are_forms) l14 c14 k14
  have F15 := fun_mk (st := s_prefixed) l15 c15 k15
  have F16 := fun_mk (st := s_bracketed) l16 c16 k16
  have F17 := fun_mk (st := s_form_of) l17 c17 k17
  have F18 := fun_mk (st := s_Saying___init__) l18 c18 k18
  have F19 := fun_mk (st := s_Saying_read) l19 c19 k19
  have F20 := fun_mk (st := s_Saying_form) l20 c20 k20
  have F21 := fun_mk (st := s_Saying_text) l21 c21 k21
  have F22 := fun_mk (st := s__law_stream) l22 c22 k22
  have F23 := fun_mk (st := s__law_draw) l23 c23 k23
  have F24 := fun_mk (st := s__law_pick) l24 c24 k24
  have F25 := fun_mk (st := s__law_text) l25 c25 k25
  have F26 := fun_mk (st := s__law_atoms) l26 c26 k26
  have F27 := fun_mk (st := s__law_free) l27 c27 k27
  have F28 := fun_mk (st := s_law) l28 c28 k28
  have T : Txt K w mg ⟨f1, _, f2, _, f3, _, f4, _, f5, _, f6, _, f7, _, f8, _, f9, _, f10, _, f11, _, f12, _, f13, _, f14, _, f15, _, f16, _, f17, _, f18, _, f19, _, q19, f20, _, f21, _, f22, _, f23, _, f24, _, f25, _, f26, _, f27, _, fa, _, x1, x2, x3, x4, x5, .int 100000 t6, x7, x8, .int 8 t9⟩ := {
    o_Saying := ⟨⟨p1_0, p1_1, p1_2, p1_3⟩, p1_4, p1_5, p1_6, p1_7, p1_8⟩,
    m_Saying := PySem.W.mg_of X G g1,
    k_Saying := ⟨p1_9, a18, b18, p1_10⟩,
    n_Saying__form := n1__form,
    n_Saying__signs := n1__signs,
    x_FORMS_IN := PySem.W.mg_of X G u1,
    y_FORMS_IN := wdic_mk ⟨_, _, v1, w1, y1⟩ (List.forall_mem_cons.mpr ⟨⟨_, .int 0, i1_0, ⟨_, rfl⟩, fun _ => rfl⟩, (List.forall_mem_cons.mpr ⟨⟨_, .int 0, i1_1, ⟨_, rfl⟩, fun _ => rfl⟩, (List.forall_mem_cons.mpr ⟨⟨_, .int 0, i1_2, ⟨_, rfl⟩, fun _ => rfl⟩, (List.forall_mem_cons.mpr ⟨⟨_, .int 0, i1_3, ⟨_, rfl⟩, fun _ => rfl⟩, (List.forall_mem_cons.mpr ⟨⟨_, .int 1, i1_4, ⟨_, rfl⟩, fun _ => rfl⟩, (List.forall_mem_cons.mpr ⟨⟨_, .int 2, i1_5, ⟨_, rfl⟩, fun _ => rfl⟩, (List.forall_mem_cons.mpr ⟨⟨_, .int 2, i1_6, ⟨_, rfl⟩, fun _ => rfl⟩, (List.forall_mem_cons.mpr ⟨⟨_, .int 2, i1_7, ⟨_, rfl⟩, fun _ => rfl⟩, (List.forall_mem_cons.mpr ⟨⟨_, .int 1, i1_8, ⟨_, rfl⟩, fun _ => rfl⟩, (fun _ h => absurd h List.not_mem_nil)⟩)⟩)⟩)⟩)⟩)⟩)⟩)⟩)⟩),
    x_AHEAD_WORDS := PySem.W.mg_of X G u2,
    y_AHEAD_WORDS := wdic_mk ⟨_, _, v2, w2, y2⟩ (List.forall_mem_cons.mpr ⟨⟨_, .str "not", i2_0, ⟨_, rfl⟩, fun _ => rfl⟩, (List.forall_mem_cons.mpr ⟨⟨_, .str "box", i2_1, ⟨_, rfl⟩, fun _ => rfl⟩, (fun _ h => absurd h List.not_mem_nil)⟩)⟩),
    w_AHEAD_WORDS := adic_mk (ts := [s2_0, s2_1]) v2 j2 rfl,
    x_BETWEEN_WORDS := PySem.W.mg_of X G u3,
    y_BETWEEN_WORDS := wdic_mk ⟨_, _, v3, w3, y3⟩ (List.forall_mem_cons.mpr ⟨⟨_, .str "and", i3_0, ⟨_, rfl⟩, fun _ => rfl⟩, (List.forall_mem_cons.mpr ⟨⟨_, .str "or", i3_1, ⟨_, rfl⟩, fun _ => rfl⟩, (List.forall_mem_cons.mpr ⟨⟨_, .str "if", i3_2, ⟨_, rfl⟩, fun _ => rfl⟩, (fun _ h => absurd h List.not_mem_nil)⟩)⟩)⟩),
    w_BETWEEN_WORDS := adic_mk (ts := [s3_0, s3_1, s3_2]) v3 j3 rfl,
    x_AHEAD := PySem.W.mg_of X G u4,
    y_AHEAD := wdic_mk ⟨_, _, v4, w4, y4⟩ (List.forall_mem_cons.mpr ⟨⟨_, .str "~", i4_0, ⟨_, rfl⟩, fun _ => rfl⟩, (List.forall_mem_cons.mpr ⟨⟨_, .str "#", i4_1, ⟨_, rfl⟩, fun _ => rfl⟩, (fun _ h => absurd h List.not_mem_nil)⟩)⟩),
    w_AHEAD := adic_mk (ts := [s4_0, s4_1]) v4 j4 rfl,
    x_BETWEEN := PySem.W.mg_of X G u5,
    y_BETWEEN := wdic_mk ⟨_, _, v5, w5, y5⟩ (List.forall_mem_cons.mpr ⟨⟨_, .str " & ", i5_0, ⟨_, rfl⟩, fun _ => rfl⟩, (List.forall_mem_cons.mpr ⟨⟨_, .str " | ", i5_1, ⟨_, rfl⟩, fun _ => rfl⟩, (List.forall_mem_cons.mpr ⟨⟨_, .str " > ", i5_2, ⟨_, rfl⟩, fun _ => rfl⟩, (fun _ h => absurd h List.not_mem_nil)⟩)⟩)⟩),
    w_BETWEEN := adic_mk (ts := [s5_0, s5_1, s5_2]) v5 j5 rfl,
    x_MOST_SIGNS := ⟨PySem.W.mg_of X G u6, ⟨_, rfl⟩⟩,
    x_WORDS_IN := PySem.W.mg_of X G u7,
    y_WORDS_IN := wdic_mk ⟨_, _, v7, w7, y7⟩ (List.forall_mem_cons.mpr ⟨⟨_, .int 0, i7_0, ⟨_, rfl⟩, fun _ => rfl⟩, (List.forall_mem_cons.mpr ⟨⟨_, .int 0, i7_1, ⟨_, rfl⟩, fun _ => rfl⟩, (List.forall_mem_cons.mpr ⟨⟨_, .int 1, i7_2, ⟨_, rfl⟩, fun _ => rfl⟩, (List.forall_mem_cons.mpr ⟨⟨_, .int 2, i7_3, ⟨_, rfl⟩, fun _ => rfl⟩, (List.forall_mem_cons.mpr ⟨⟨_, .int 0, i7_4, ⟨_, rfl⟩, fun _ => rfl⟩, (List.forall_mem_cons.mpr ⟨⟨_, .int 0, i7_5, ⟨_, rfl⟩, fun _ => rfl⟩, (List.forall_mem_cons.mpr ⟨⟨_, .int 0, i7_6, ⟨_, rfl⟩, fun _ => rfl⟩, (List.forall_mem_cons.mpr ⟨⟨_, .int 0, i7_7, ⟨_, rfl⟩, fun _ => rfl⟩, (List.forall_mem_cons.mpr ⟨⟨_, .int 0, i7_8, ⟨_, rfl⟩, fun _ => rfl⟩, (fun _ h => absurd h List.not_mem_nil)⟩)⟩)⟩)⟩)⟩)⟩)⟩)⟩)⟩),
    x_KEPT_WORDS := PySem.W.mg_of X G u8,
    y_KEPT_WORDS := kt_strs [("yes", t8_0), ("no", t8_1), ("me", t8_2), ("him", t8_3), ("x", t8_4)] v8 (by show 5 ≤ sizeLine; decide),
    x_LONGEST_WORD := ⟨PySem.W.mg_of X G u9, ⟨_, rfl⟩⟩,
    F_is_small := F1,
    b_is_small := F1.binds (ps := ["sign"]) (fun _ _ _ _ _ _ us hl => match us, hl with | [_], _ => rfl),
    g_is_small := PySem.W.mg_of X G a1,
    F_is_word := F2,
    b_is_word := F2.binds (ps := ["thing"]) (fun _ _ _ _ _ _ us hl => match us, hl with | [_], _ => rfl),
    g_is_word := PySem.W.mg_of X G a2,
    F_is_name := F3,
    b_is_name := F3.binds (ps := ["thing"]) (fun _ _ _ _ _ _ us hl => match us, hl with | [_], _ => rfl),
    g_is_name := PySem.W.mg_of X G a3,
    F_is_who := F4,
    b_is_who := F4.binds (ps := ["thing"]) (fun _ _ _ _ _ _ us hl => match us, hl with | [_], _ => rfl),
    g_is_who := PySem.W.mg_of X G a4,
    F_wrong_in := F5,
    b_wrong_in := F5.binds (ps := ["item"]) (fun _ _ _ _ _ _ us hl => match us, hl with | [_], _ => rfl),
    g_wrong_in := PySem.W.mg_of X G a5,
    F_items_of := F6,
    b_items_of := F6.binds (ps := ["form"]) (fun _ _ _ _ _ _ us hl => match us, hl with | [_], _ => rfl),
    g_items_of := PySem.W.mg_of X G a6,
    F_built := F7,
    b_built := F7.binds (ps := ["items"]) (fun _ _ _ _ _ _ us hl => match us, hl with | [_], _ => rfl),
    g_built := PySem.W.mg_of X G a7,
    F_signs_of := F8,
    b_signs_of := F8.binds (ps := ["form"]) (fun _ _ _ _ _ _ us hl => match us, hl with | [_], _ => rfl),
    g_signs_of := PySem.W.mg_of X G a8,
    F_text_with := F9,
    b_text_with := F9.binds (ps := ["sign", "inner"]) (fun _ _ _ _ _ _ us hl => match us, hl with | [_, _], _ => rfl),
    g_text_with := PySem.W.mg_of X G a9,
    F_texts_of := F10,
    b_texts_of := F10.binds (ps := ["signs"]) (fun _ _ _ _ _ _ us hl => match us, hl with | [_], _ => rfl),
    g_texts_of := PySem.W.mg_of X G a10,
    F_piece_at := F11,
    b_piece_at := F11.binds (ps := ["text", "at"]) (fun _ _ _ _ _ _ us hl => match us, hl with | [_, _], _ => rfl),
    g_piece_at := PySem.W.mg_of X G a11,
    F_pieces_of := F12,
    b_pieces_of := F12.binds (ps := ["text"]) (fun _ _ _ _ _ _ us hl => match us, hl with | [_], _ => rfl),
    g_pieces_of := PySem.W.mg_of X G a12,
    F_leaf := F13,
    b_leaf := F13.binds (ps := ["piece"]) (fun _ _ _ _ _ _ us hl => match us, hl with | [_], _ => rfl),
    g_leaf := PySem.W.mg_of X G a13,
    F_are_forms := F14,
    b_are_forms := F14.binds (ps := ["things"]) (fun _ _ _ _ _ _ us hl => match us, hl with | [_], _ => rfl),
    g_are_forms := PySem.W.mg_of X G a14,
    F_prefixed := F15,
    b_prefixed := F15.binds (ps := ["piece", "behind"]) (fun _ _ _ _ _ _ us hl => match us, hl with | [_, _], _ => rfl),
    g_prefixed := PySem.W.mg_of X G a15,
    F_bracketed := F16,
    b_bracketed := F16.binds (ps := ["behind"]) (fun _ _ _ _ _ _ us hl => match us, hl with | [_], _ => rfl),
    g_bracketed := PySem.W.mg_of X G a16,
    F_form_of := F17,
    b_form_of := F17.binds (ps := ["text"]) (fun _ _ _ _ _ _ us hl => match us, hl with | [_], _ => rfl),
    g_form_of := PySem.W.mg_of X G a17,
    F_Saying___init__ := F18,
    b_Saying___init__ := F18.binds (ps := ["self", "form"]) (fun _ _ _ _ _ _ us hl => match us, hl with | [_, _], _ => rfl),
    F_Saying_read := F19,
    b_Saying_read := F19.binds (ps := ["cls", "text"]) (fun _ _ _ _ _ _ us hl => match us, hl with | [_, _], _ => rfl),
    c_Saying_read := ⟨⟨r19_0, r19_1⟩, r19_2, ⟨_, r19_3⟩, r19_4⟩,
    F_Saying_form := F20,
    b_Saying_form := F20.binds (ps := ["self"]) (fun _ _ _ _ _ _ us hl => match us, hl with | [_], _ => rfl),
    g_Saying_form := ⟨a20, b20, k20⟩,
    F_Saying_text := F21,
    b_Saying_text := F21.binds (ps := ["self"]) (fun _ _ _ _ _ _ us hl => match us, hl with | [_], _ => rfl),
    g_Saying_text := ⟨a21, b21, k21⟩,
    F__law_stream := F22,
    b__law_stream := F22.binds (ps := ["_law_script", "_law_k"]) (fun _ _ _ _ _ _ us hl => match us, hl with | [_, _], _ => rfl),
    g__law_stream := PySem.W.mg_of X G a22,
    F__law_draw := F23,
    b__law_draw := F23.binds (ps := ["_law_stream_here", "_law_many"]) (fun _ _ _ _ _ _ us hl => match us, hl with | [_, _], _ => rfl),
    g__law_draw := PySem.W.mg_of X G a23,
    F__law_pick := F24,
    b__law_pick := F24.binds (ps := ["_law_stream_here", "_law_things"]) (fun _ _ _ _ _ _ us hl => match us, hl with | [_, _], _ => rfl),
    g__law_pick := PySem.W.mg_of X G a24,
    F__law_text := F25,
    b__law_text := F25.binds (ps := ["_law_form"]) (fun _ _ _ _ _ _ us hl => match us, hl with | [_], _ => rfl),
    g__law_text := PySem.W.mg_of X G a25,
    F__law_atoms := F26,
    b__law_atoms := F26.binds (ps := []) (fun _ _ _ _ _ _ us hl => match us, hl with | [], _ => rfl),
    g__law_atoms := PySem.W.mg_of X G a26,
    F__law_free := F27,
    b__law_free := F27.binds (ps := ["_law_stream_here", "_law_atoms_here", "_law_size"]) (fun _ _ _ _ _ _ us hl => match us, hl with | [_, _, _], _ => rfl),
    g__law_free := PySem.W.mg_of X G a27,
    F_law := F28,
    b_law := F28.binds (ps := ["_law_script"]) (fun _ _ _ _ _ _ us hl => match us, hl with | [_], _ => rfl),
    g_law := PySem.W.mg_of X G a28,
    z_abs := PySem.W.mg_none_of X G z_abs,
    z_all := PySem.W.mg_none_of X G z_all,
    z_int := PySem.W.mg_none_of X G z_int,
    z_isinstance := PySem.W.mg_none_of X G z_isinstance,
    z_len := PySem.W.mg_none_of X G z_len,
    z_list := PySem.W.mg_none_of X G z_list,
    z_range := PySem.W.mg_none_of X G z_range,
    z_str := PySem.W.mg_none_of X G z_str,
    z_tuple := PySem.W.mg_none_of X G z_tuple }
  refine ⟨PySem.W.fnOf "law" "law" (defArgs s_law) (defBody s_law) (defScope s_law) .none kV28 dc28 pm28 an28 cd28 ct28, fun s v => .of_eq rfl, fun base _ _ => ?_⟩
  have G_is_small := ok_is_small (P := l.prog) (w := w) (base := base) T
  have G_is_word := ok_is_word (P := l.prog) (w := w) (base := base) T G_is_small
  have G_is_name := ok_is_name (P := l.prog) (w := w) (base := base) T G_is_word
  have G_is_who := ok_is_who (P := l.prog) (w := w) (base := base) T G_is_word
  have G_wrong_in := ok_wrong_in (P := l.prog) (w := w) (base := base) T G_is_name G_is_who
  have G_items_of := ok_items_of (P := l.prog) (w := w) (base := base) T G_wrong_in
  have G_built := ok_built (P := l.prog) (w := w) (base := base) T
  have G_signs_of := ok_signs_of (P := l.prog) (w := w) (base := base) T G_built G_items_of
  have G_text_with := ok_text_with (P := l.prog) (w := w) (base := base) T
  have G_texts_of := ok_texts_of (P := l.prog) (w := w) (base := base) T G_text_with
  have G_piece_at := ok_piece_at (P := l.prog) (w := w) (base := base) T G_is_small
  have G_pieces_of := ok_pieces_of (P := l.prog) (w := w) (base := base) T G_piece_at
  have G_leaf := ok_leaf (P := l.prog) (w := w) (base := base) T G_is_name G_is_who
  have G_are_forms := ok_are_forms (P := l.prog) (w := w) (base := base) T
  have G_prefixed := ok_prefixed (P := l.prog) (w := w) (base := base) T G_are_forms
  have G_bracketed := ok_bracketed (P := l.prog) (w := w) (base := base) T G_are_forms
  have G_form_of := ok_form_of (P := l.prog) (w := w) (base := base) T G_pieces_of G_prefixed G_bracketed G_leaf G_are_forms
  have G_Saying___init__ := ok_Saying___init__ (P := l.prog) (w := w) (base := base) T G_signs_of
  have G_Saying_read := ok_Saying_read (P := l.prog) (w := w) (base := base) T G_Saying___init__ G_form_of
  have G_Saying_form := ok_Saying_form (P := l.prog) (w := w) (base := base) T
  have G_Saying_text := ok_Saying_text (P := l.prog) (w := w) (base := base) T G_texts_of
  have G__law_stream := ok__law_stream (P := l.prog) (w := w) (base := base) T
  have G__law_draw := ok__law_draw (P := l.prog) (w := w) (base := base) T
  have G__law_pick := ok__law_pick (P := l.prog) (w := w) (base := base) T G__law_draw
  have G__law_text := ok__law_text (P := l.prog) (w := w) (base := base) T 20
  have G__law_atoms := ok__law_atoms (P := l.prog) (w := w) (base := base) T
  have G__law_free := ok__law_free (P := l.prog) (w := w) (base := base) T G__law_draw G__law_pick 20
  have G_law := ok_law (P := l.prog) (w := w) (base := base) T G__law_stream G__law_free G__law_atoms G_Saying_text G_Saying___init__ G__law_text G_Saying_form G_Saying_read
  exact G_law.imp (law_of fun ns hl => law_true ns)
end K04
open PySem PySem.W PyProof.Rows
set_option maxHeartbeats 0 in
theorem PySem.Challenge.cw_boxfall_k04_texts_of_sayings_holds : PySem.Challenge.rw_boxfall_k04_texts_of_sayings.Holds := by
  w_on; o_law; k_head; (case hw => w_witness2)
  k_fill
  refine L2.walk_of (l := PySem.Challenge.rw_boxfall_k04_texts_of_sayings) (n := 63) (k := 23) (x := "_law_script") (CX := fun _ => L2.CX0) (sp := fun w => Hk.spLaw _) rfl (by decide) rfl ⟨rfl, by decide, by decide⟩ (fun w h Y => PySem.W.kIn_of Y) ?F (fun _ _ a ns hl _ hS => ⟨a, ns, rfl, hS, hl, fun _ => rfl⟩) (fun _ _ _ _ _ h => h)
  case F =>
    intro w mg fa h KX G hmg
    refine' K04.all_mk KX G hmg ?g1 ?p1_0 ?p1_1 ?p1_2 ?p1_3 ?p1_4 ?p1_5 ?p1_6 ?p1_7 ?p1_8 ?p1_9 ?p1_10 ?n1__form ?n1__signs ?a1 ?l1 ?c1 ?k1 ?a2 ?l2 ?c2 ?k2 ?a3 ?l3 ?c3 ?k3 ?a4 ?l4 ?c4 ?k4 ?a5 ?l5 ?c5 ?k5 ?a6 ?l6 ?c6 ?k6 ?a7 ?l7 ?c7 ?k7 ?a8 ?l8 ?c8 ?k8 ?a9 ?l9 ?c9 ?k9 ?a10 ?l10 ?c10 ?k10 ?a11 ?l11 ?c11 ?k11 ?a12 ?l12 ?c12 ?k12 ?a13 ?l13 ?c13 ?k13 ?a14 ?l14 ?c14 ?k14 ?a15 ?l15 ?c15 ?k15 ?a16 ?l16 ?c16 ?k16 ?a17 ?l17 ?c17 ?k17 ?a18 ?b18 ?l18 ?c18 ?k18 ?r19_0 ?r19_1 ?r19_2 ?r19_3 ?r19_4 ?l19 ?c19 ?k19 ?a20 ?b20 ?l20 ?c20 ?k20 ?a21 ?b21 ?l21 ?c21 ?k21 ?a22 ?l22 ?c22 ?k22 ?a23 ?l23 ?c23 ?k23 ?a24 ?l24 ?c24 ?k24 ?a25 ?l25 ?c25 ?k25 ?a26 ?l26 ?c26 ?k26 ?a27 ?l27 ?c27 ?k27 ?a28 ?l28 ?c28 ?k28 ?u1 ?v1 ?w1 ?y1 ?i1_0 ?i1_1 ?i1_2 ?i1_3 ?i1_4 ?i1_5 ?i1_6 ?i1_7 ?i1_8 ?u2 ?v2 ?w2 ?y2 ?i2_0 ?i2_1 ?j2 ?u3 ?v3 ?w3 ?y3 ?i3_0 ?i3_1 ?i3_2 ?j3 ?u4 ?v4 ?w4 ?y4 ?i4_0 ?i4_1 ?j4 ?u5 ?v5 ?w5 ?y5 ?i5_0 ?i5_1 ?i5_2 ?j5 ?u6 ?u7 ?v7 ?w7 ?y7 ?i7_0 ?i7_1 ?i7_2 ?i7_3 ?i7_4 ?i7_5 ?i7_6 ?i7_7 ?i7_8 ?u8 ?v8 ?u9 ?z_abs ?z_all ?z_int ?z_isinstance ?z_len ?z_list ?z_range ?z_str ?z_tuple
    (case g1 => k_is)
    (case p1_0 => k_is)
    (case p1_1 => k_is)
    (case p1_2 => k_is)
    (case p1_3 => k_is)
    (case p1_4 => k_is)
    (case p1_5 => k_is)
    (case p1_6 => k_is)
    (case p1_7 => k_is)
    (case p1_8 => k_is)
    (case p1_9 => k_is)
    (case p1_10 => k_is)
    (case n1__form => k_is)
    (case n1__signs => k_is)
    (case a1 => k_is)
    (case l1 => k_is)
    (case c1 => k_is)
    (case k1 => k_is)
    (case a2 => k_is)
    (case l2 => k_is)
    (case c2 => k_is)
    (case k2 => k_is)
    (case a3 => k_is)
    (case l3 => k_is)
    (case c3 => k_is)
    (case k3 => k_is)
    (case a4 => k_is)
    (case l4 => k_is)
    (case c4 => k_is)
    (case k4 => k_is)
    (case a5 => k_is)
    (case l5 => k_is)
    (case c5 => k_is)
    (case k5 => k_is)
    (case a6 => k_is)
    (case l6 => k_is)
    (case c6 => k_is)
    (case k6 => k_is)
    (case a7 => k_is)
    (case l7 => k_is)
    (case c7 => k_is)
    (case k7 => k_is)
    (case a8 => k_is)
    (case l8 => k_is)
    (case c8 => k_is)
    (case k8 => k_is)
    (case a9 => k_is)
    (case l9 => k_is)
    (case c9 => k_is)
    (case k9 => k_is)
    (case a10 => k_is)
    (case l10 => k_is)
    (case c10 => k_is)
    (case k10 => k_is)
    (case a11 => k_is)
    (case l11 => k_is)
    (case c11 => k_is)
    (case k11 => k_is)
    (case a12 => k_is)
    (case l12 => k_is)
    (case c12 => k_is)
    (case k12 => k_is)
    (case a13 => k_is)
    (case l13 => k_is)
    (case c13 => k_is)
    (case k13 => k_is)
    (case a14 => k_is)
    (case l14 => k_is)
    (case c14 => k_is)
    (case k14 => k_is)
    (case a15 => k_is)
    (case l15 => k_is)
    (case c15 => k_is)
    (case k15 => k_is)
    (case a16 => k_is)
    (case l16 => k_is)
    (case c16 => k_is)
    (case k16 => k_is)
    (case a17 => k_is)
    (case l17 => k_is)
    (case c17 => k_is)
    (case k17 => k_is)
    (case a18 => k_is)
    (case b18 => k_is)
    (case l18 => k_is)
    (case c18 => k_is)
    (case k18 => k_is)
    (case r19_0 => k_is)
    (case r19_1 => k_is)
    (case r19_2 => k_is)
    (case r19_3 => k_is)
    (case r19_4 => k_is)
    (case l19 => k_is)
    (case c19 => k_is)
    (case k19 => k_is)
    (case a20 => k_is)
    (case b20 => k_is)
    (case l20 => k_is)
    (case c20 => k_is)
    (case k20 => k_is)
    (case a21 => k_is)
    (case b21 => k_is)
    (case l21 => k_is)
    (case c21 => k_is)
    (case k21 => k_is)
    (case a22 => k_is)
    (case l22 => k_is)
    (case c22 => k_is)
    (case k22 => k_is)
    (case a23 => k_is)
    (case l23 => k_is)
    (case c23 => k_is)
    (case k23 => k_is)
    (case a24 => k_is)
    (case l24 => k_is)
    (case c24 => k_is)
    (case k24 => k_is)
    (case a25 => k_is)
    (case l25 => k_is)
    (case c25 => k_is)
    (case k25 => k_is)
    (case a26 => k_is)
    (case l26 => k_is)
    (case c26 => k_is)
    (case k26 => k_is)
    (case a27 => k_is)
    (case l27 => k_is)
    (case c27 => k_is)
    (case k27 => k_is)
    (case a28 => k_is)
    (case l28 => k_is)
    (case c28 => k_is)
    (case k28 => k_is)
    (case u1 => k_is)
    (case v1 => k_is)
    (case w1 => k_keys)
    (case y1 => (first | k_is | decide | rfl))
    (case i1_0 => k_is)
    (case i1_1 => k_is)
    (case i1_2 => k_is)
    (case i1_3 => k_is)
    (case i1_4 => k_is)
    (case i1_5 => k_is)
    (case i1_6 => k_is)
    (case i1_7 => k_is)
    (case i1_8 => k_is)
    (case u2 => k_is)
    (case v2 => k_is)
    (case w2 => k_keys)
    (case y2 => (first | k_is | decide | rfl))
    (case i2_0 => k_is)
    (case i2_1 => k_is)
    (case j2 => (first | k_is | rfl))
    (case u3 => k_is)
    (case v3 => k_is)
    (case w3 => k_keys)
    (case y3 => (first | k_is | decide | rfl))
    (case i3_0 => k_is)
    (case i3_1 => k_is)
    (case i3_2 => k_is)
    (case j3 => (first | k_is | rfl))
    (case u4 => k_is)
    (case v4 => k_is)
    (case w4 => k_keys)
    (case y4 => (first | k_is | decide | rfl))
    (case i4_0 => k_is)
    (case i4_1 => k_is)
    (case j4 => (first | k_is | rfl))
    (case u5 => k_is)
    (case v5 => k_is)
    (case w5 => k_keys)
    (case y5 => (first | k_is | decide | rfl))
    (case i5_0 => k_is)
    (case i5_1 => k_is)
    (case i5_2 => k_is)
    (case j5 => (first | k_is | rfl))
    (case u6 => k_is)
    (case u7 => k_is)
    (case v7 => k_is)
    (case w7 => k_keys)
    (case y7 => (first | k_is | decide | rfl))
    (case i7_0 => k_is)
    (case i7_1 => k_is)
    (case i7_2 => k_is)
    (case i7_3 => k_is)
    (case i7_4 => k_is)
    (case i7_5 => k_is)
    (case i7_6 => k_is)
    (case i7_7 => k_is)
    (case i7_8 => k_is)
    (case u8 => k_is)
    (case v8 => k_is)
    (case u9 => k_is)
    (case z_abs => k_is)
    (case z_all => k_is)
    (case z_int => k_is)
    (case z_isinstance => k_is)
    (case z_len => k_is)
    (case z_list => k_is)
    (case z_range => k_is)
    (case z_str => k_is)
    (case z_tuple => k_is)
