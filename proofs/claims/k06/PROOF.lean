import PyProof.Rows.All
import Wide.All
import OpenK.AllK
import Wide.FinOn
import HandS.Nested
import HandS.ExcInit
import KE.KExcSuper
import HandS.ExcField
import HandS.ExcOwn
import HandS.ExcValue
import HandS.ExcIs
import HandS.IsInst
import KE.KExcIs
import HandS.MakeKwOnly
import HandS.ForMost
import HandS.Wide
import HandS.Evl
import HandS.Flow
import HandS.TupAny
import HandS.TupMul
import HandS.Lambda
import HandS.OwnEq
import HandS.Text
import HandS.Style
import HandS.More
import HandS.FStr
import HandS.ClsMeth
import HandS.DictComp
import HandS.Small
import HandS.Zip
import HandS.SetBool
import HandS.SortKw
import HandS.Strs
import HandS.WideBits
import HandS.Conv
import HandS.TryOnly
import HandS.WordsExc
import PyProof.Draws
import PyProof.Rows.IntBool
import HandS.SetTxt0
import HandS.Iter
import PyProof.ReprRoads
import HandS.TupLe
import HandS.TupSets
import HandS.Deep
import HandS.EndTab
import HandS.NamedTupSort
import KE.KEqNest
import KE.KSortTupG
import PySem.Challenge.RW_boxfall_k06_parts_of_sayings
set_option Elab.async false
set_option linter.all false
set_option maxRecDepth 100000
set_option maxHeartbeats 4000000
/-! HkA: the promise of an `__init__` of an own exception class that begins with super().__init__(a text). -/
namespace Hk
open PySem PySem.Spec PyProof.Rows L2 NdefX
section
open PySem.W
variable {prog : Program} {w : World} {A : Around} {E : Value → Shared → Prop} {h : Heap} {g : Array GenState} {d : Drawn} {t : Nat} {os : OsState}
variable {nm q : Str} {C N : Addr} {bs bm : List Value} {hdct : Bool} {sn : List Str} {sub : List Value} {ab : Bool} {col : Option Bool} {dd : Option Addr} {k0 k1 k2 k3 k5 : Option Value}
end
end Hk
/-! HkB: exceptions as values: made, asked for their class, their fields read. -/
namespace Hk
open PySem PySem.Spec PyProof.Rows L2
section
variable {X : Cx} {CX : CXT} {k : Nat} {fI C a : Addr} {fd : FuncData} {sp : Sp} {E : XK} {x par f : Str} {p pos : Pos} {e : Expr} {te : TE}
end
end Hk
/-! HkC: an exception made by a call with keywords. -/
namespace Hk
open PySem PySem.Spec PyProof.Rows L2
section
open PySem.HandSPX
variable {M : Model} {A : Around} {E : Value → Shared → Prop} {h : Heap} {g : Array GenState} {d : Drawn} {t : Nat} {os : OsState}
variable {nm q : Str} {C N : Addr} {bs bm bmB : List Value} {hdct : Bool} {sn : List Str} {sub : List Value} {ab : Bool} {col : Option Bool} {dd : Option Addr} {k0 k1 k2 k3 k5 : Option Value} {B newId initId : String}
end
section
open PySem.HandSPX
variable {prog : Program} {w : World} {A : Around} {E : Value → Shared → Prop} {R : Result → Shared → Prop} {h : Heap} {g : Array GenState} {d : Drawn} {t : Nat} {os : OsState}
variable {nm q : Str} {C N : Addr} {bs bm bmB : List Value} {hdct : Bool} {sn : List Str} {sub : List Value} {ab : Bool} {col : Option Bool} {dd : Option Addr} {k0 k1 k2 k3 k5 : Option Value} {B newId initId : String}
end
section
variable {X : Cx} {CX : CXT} {k : Nat} {fI C a : Addr} {fd : FuncData} {sp : Sp} {E : XK} {x par f : Str} {p pos kpos : Pos} {e : Expr} {te : TE}
end
end Hk
/-! Hk1: a def as a plain function over data and cells: the state, its relation to the heap, the judgements. -/
namespace Hk
open PySem PySem.Spec PyProof.Rows L2 Evl

/-- data that stands still; an object of an own class that is never changed; a dict that is never changed -/
inductive Dt where
  | non | bl (b : Bool) | int (i : Int) | str (s : Str)
  | lst (xs : List Dt) | tup (xs : List Dt) | sq (xs : List Dt)
  | obj (C : Str) (ns : List Str) (ds : List Dt)
  | dic (ks : List Key) (ds : List Dt)
  | cls (C : Str)
  | exc (C : Str) (ns : List Str) (ds : List Dt)
/-- where the class of a name stands -/
def clA (K : PySem.W.Frag) (C : Str) : Addr := match PySem.W.nsIn K PySem.mainGlobals C with
  | some (some (.ref a)) => a
  | _ => 0
/-- nested things that may change, all of them owned by one cell -/
inductive Tr where
  | dat (d : Dt) | lst (ts : List Tr) | dic (ks : List Key) (ts : List Tr) | ins (C : Str) (ns : List Str) (ts : List Tr)
/-- where they stand -/
inductive AT where
  | no | nd (a : Addr) (as : List AT)
/-- a lambda of one parameter with one captured name, as it is written -/
structure Lam where
  qual : Str
  par : Str
  y : Str
  params : Arguments
  body : Expr
  scope : Scope
/-- a value: data, the k-th cell, a tuple that holds cells, a tuple of data that is known to have no dict of its own -/
inductive Vl where
  | d (d : Dt) | c (k : Nat) | t (rs : List Vl) | z (ds : List Dt) | g (L : Lam) (k : Nat)
/-- a cell, a thing that may change and holds data alone: a list, an instance, a dict; one that is data by now; any other thing at its address; the table of code objects at P, which tells none but of the name q -/
inductive Ce where
  | dead | lst (xs : List Dt)
  | ins (C : Str) (ns : List Str) (ds : List Dt)
  | dic (ks : List Key) (ds : List Dt) | dit (ks : List (List Key)) (ds : List Dt)
  | pin (o : HO) | lkd (ks : List Key) (ds : List Dt)
  | tbl (P : Addr) (q : Str)
  | tr (t : Tr) | sub (k : Nat) (π : List Nat)
structure En where
  sl : List (Option Vl)
  ce : List Ce

/-- an exception of the class at C stands at a, with the fields fs -/
def ExcAt (H : Hp) (a C : Addr) (fs : List (Str × V)) : Prop := (fs = [] ∧ H a = some (exo a C none)) ∨ ∃ dx, H a = some (exo a C (some dx)) ∧ H dx = some (exd dx fs)
theorem ExcAt.imp {H H' : Hp} (e : ∀ (a : Addr) (φ : Heap → Prop), H a = some (.ext φ) → H' a = some (.ext φ)) {a C : Addr} {fs : List (Str × V)} (h : ExcAt H a C fs) : ExcAt H' a C fs := by
  rcases h with ⟨h1, h2⟩ | ⟨dx, h1, h2⟩
  · exact .inl ⟨h1, e a _ h2⟩
  · exact .inr ⟨dx, e a _ h1, e dx _ h2⟩
mutual
def Rp (K : PySem.W.Frag) (H : Hp) : Dt → V → Prop
  | .non, v => v = .non
  | .bl b, v => v = .bl b
  | .int i, v => v = .int i
  | .str s, v => v = .str s
  | .lst ds, v => ∃ a xs, v = .ref a ∧ H a = some (.lst xs) ∧ RpA K H ds xs
  | .sq ds, v => ∃ a xs, v = .ref a ∧ SqL K H a xs ∧ RpA K H ds xs
  | .tup ds, v => ∃ a xs, v = .ref a ∧ SqT K H a xs ∧ RpA K H ds xs
  | .obj C ns ds, v => ∃ a dx fs, v = .ref a ∧ H a = some (.ins (clA K C) dx fs) ∧ fs.map (·.1) = ns ∧ RpA K H ds (fs.map (·.2))
  | .dic ks ds, v => ∃ a kvs, v = .ref a ∧ Rd H a (.dK kvs) ∧ kvs.map (·.1) = ks ∧ RpA K H ds (kvs.map (·.2))
  | .cls C, v => v = .ref (clA K C)
  | .exc C ns ds, v => ∃ a fs, v = .ref a ∧ ExcAt H a (clA K C) fs ∧ fs.map (·.1) = ns ∧ RpA K H ds (fs.map (·.2))
def RpA (K : PySem.W.Frag) (H : Hp) : List Dt → List V → Prop
  | [], xs => xs = []
  | d :: ds, xs => ∃ x r, xs = x :: r ∧ Rp K H d x ∧ RpA K H ds r
end

mutual
theorem Rp.ex {K : PySem.W.Frag} {H H' : Hp} (e : Ex H H') : ∀ (d : Dt) (v : V), Rp K H d v → Rp K H' d v
  | .non, v, h => h
  | .bl _, v, h => h
  | .int _, v, h => h
  | .str _, v, h => h
  | .lst ds, v, h => by
    obtain ⟨a, xs, h1, h2, h3⟩ := h
    exact ⟨a, xs, h1, e a _ h2, RpA.ex e ds xs h3⟩
  | .sq ds, v, h => by
    obtain ⟨a, xs, h1, h2, h3⟩ := h
    exact ⟨a, xs, h1, ex_l e h2, RpA.ex e ds xs h3⟩
  | .tup ds, v, h => by
    obtain ⟨a, xs, h1, h2, h3⟩ := h
    exact ⟨a, xs, h1, ex_t e h2, RpA.ex e ds xs h3⟩
  | .obj C ns ds, v, h => by
    obtain ⟨a, dx, fs, h1, h2, h3, h4⟩ := h
    exact ⟨a, dx, fs, h1, e a _ h2, h3, RpA.ex e ds _ h4⟩
  | .dic ks ds, v, h => by
    obtain ⟨a, kvs, h1, h2, h3, h4⟩ := h
    exact ⟨a, kvs, h1, ex_rd e h2, h3, RpA.ex e ds _ h4⟩
  | .cls _, v, h => h
  | .exc C ns ds, v, h => by
    obtain ⟨a, fs, h1, h2, h3, h4⟩ := h
    exact ⟨a, fs, h1, h2.imp fun a φ q => e a _ q, h3, RpA.ex e ds _ h4⟩
theorem RpA.ex {K : PySem.W.Frag} {H H' : Hp} (e : Ex H H') : ∀ (ds : List Dt) (vs : List V), RpA K H ds vs → RpA K H' ds vs
  | [], vs, h => h
  | d :: ds, vs, h => by
    obtain ⟨x, r, h1, h2, h3⟩ := h
    exact ⟨x, r, h1, Rp.ex e d x h2, RpA.ex e ds r h3⟩
end

/-- what stands in the heap for what the data's heap holds: a dict that a loop locks is held wrapped once more -/
def strip : HO → HO
  | .frz _ (.frz o u) => .frz o u
  | .tbl _ => .lst []
  | u => u
def ExS (Hd H : Hp) : Prop := ∀ a u, Hd a = some u → H a = some (strip u)
theorem exs_l {K : PySem.W.Frag} {Hd H : Hp} {a : Addr} {xs : List V} (e : ExS Hd H) (h : SqL K Hd a xs) : SqL K H a xs := by
  rcases h with (h | ⟨o, h⟩) | h
  · exact .inl (.inl (e a _ h))
  · exact .inl (.inr ⟨o, e a _ h⟩)
  · exact .inr h
theorem exs_t {K : PySem.W.Frag} {Hd H : Hp} {a : Addr} {xs : List V} (e : ExS Hd H) (h : SqT K Hd a xs) : SqT K H a xs := by
  rcases h with (h | ⟨o, h⟩) | h
  · exact .inl (.inl (e a _ h))
  · exact .inl (.inr ⟨o, e a _ h⟩)
  · exact .inr h
theorem exs_d {Hd H : Hp} {a : Addr} {kvs : List (Key × V)} (e : ExS Hd H) (h : Rd Hd a (.dK kvs)) : Rd H a (.dK kvs) := by
  rcases h with h | ⟨o, h⟩
  · exact .inl (e a _ h)
  · exact .inr ⟨o, e a _ h⟩
theorem exs_back {Hd H : Hp} {p : Addr} (e : ExS Hd H) (hp : H p = none) : Hd p = none := by
  cases q : Hd p with
  | none => rfl
  | some u =>
    have := e p u q
    rw [hp] at this
    cases this
mutual
theorem Rp.exS {K : PySem.W.Frag} {H H' : Hp} (e : ExS H H') : ∀ (d : Dt) (v : V), Rp K H d v → Rp K H' d v
  | .non, v, h => h
  | .bl _, v, h => h
  | .int _, v, h => h
  | .str _, v, h => h
  | .lst ds, v, h => by
    obtain ⟨a, xs, h1, h2, h3⟩ := h
    exact ⟨a, xs, h1, e a _ h2, RpA.exS e ds xs h3⟩
  | .sq ds, v, h => by
    obtain ⟨a, xs, h1, h2, h3⟩ := h
    exact ⟨a, xs, h1, exs_l e h2, RpA.exS e ds xs h3⟩
  | .tup ds, v, h => by
    obtain ⟨a, xs, h1, h2, h3⟩ := h
    exact ⟨a, xs, h1, exs_t e h2, RpA.exS e ds xs h3⟩
  | .obj C ns ds, v, h => by
    obtain ⟨a, dx, fs, h1, h2, h3, h4⟩ := h
    exact ⟨a, dx, fs, h1, e a _ h2, h3, RpA.exS e ds _ h4⟩
  | .dic ks ds, v, h => by
    obtain ⟨a, kvs, h1, h2, h3, h4⟩ := h
    exact ⟨a, kvs, h1, exs_d e h2, h3, RpA.exS e ds _ h4⟩
  | .cls _, v, h => h
  | .exc C ns ds, v, h => by
    obtain ⟨a, fs, h1, h2, h3, h4⟩ := h
    exact ⟨a, fs, h1, h2.imp fun a φ q => e a _ q, h3, RpA.exS e ds _ h4⟩
theorem RpA.exS {K : PySem.W.Frag} {H H' : Hp} (e : ExS H H') : ∀ (ds : List Dt) (vs : List V), RpA K H ds vs → RpA K H' ds vs
  | [], vs, h => h
  | d :: ds, vs, h => by
    obtain ⟨x, r, h1, h2, h3⟩ := h
    exact ⟨x, r, h1, Rp.exS e d x h2, RpA.exS e ds r h3⟩
end
section
variable {K : PySem.W.Frag} {H Hd : Hp}
theorem RpA.len : ∀ {ds : List Dt} {vs : List V}, RpA K H ds vs → vs.length = ds.length
  | [], vs, h => by
    rw [show vs = [] from h]
    rfl
  | d :: ds, vs, h => by
    obtain ⟨x, r, rfl, _, h3⟩ := h
    rw [List.length_cons, List.length_cons, RpA.len h3]
theorem RpA.at : ∀ {ds : List Dt} {vs : List V} {i : Nat} {d : Dt}, RpA K H ds vs → ds[i]? = some d → ∃ v, vs[i]? = some v ∧ Rp K H d v
  | [], vs, i, d, h, e => by simp at e
  | d :: ds, vs, 0, d', h, e => by
    obtain ⟨x, r, rfl, h2, h3⟩ := h
    have e2 : d = d' := Option.some.inj e
    exact ⟨x, rfl, e2 ▸ h2⟩
  | d :: ds, vs, i + 1, d', h, e => by
    obtain ⟨x, r, rfl, h2, h3⟩ := h
    obtain ⟨v, g1, g2⟩ := RpA.at (i := i) h3 e
    exact ⟨v, g1, g2⟩
theorem RpA.app : ∀ {ds es : List Dt} {vs us : List V}, RpA K H ds vs → RpA K H es us → RpA K H (ds ++ es) (vs ++ us)
  | [], es, vs, us, h, g => by
    rw [show vs = [] from h]
    exact g
  | d :: ds, es, vs, us, h, g => by
    obtain ⟨x, r, rfl, h2, h3⟩ := h
    exact ⟨x, r ++ us, rfl, h2, RpA.app h3 g⟩
theorem RpA.one {d : Dt} {v : V} (h : Rp K H d v) : RpA K H [d] [v] := ⟨v, [], rfl, h, rfl⟩
theorem RpA.drop : ∀ (n : Nat) {ds : List Dt} {vs : List V}, RpA K H ds vs → RpA K H (ds.drop n) (vs.drop n)
  | 0, ds, vs, h => h
  | n + 1, [], vs, h => by
    rw [show vs = [] from h]
    exact (rfl : ([] : List V) = [])
  | n + 1, d :: ds, vs, h => by
    obtain ⟨x, r, rfl, h2, h3⟩ := h
    exact RpA.drop n h3
theorem RpA.take : ∀ (n : Nat) {ds : List Dt} {vs : List V}, RpA K H ds vs → RpA K H (ds.take n) (vs.take n)
  | 0, ds, vs, h => (rfl : ([] : List V) = [])
  | n + 1, [], vs, h => by
    rw [show vs = [] from h]
    exact (rfl : ([] : List V) = [])
  | n + 1, d :: ds, vs, h => by
    obtain ⟨x, r, rfl, h2, h3⟩ := h
    exact ⟨x, r.take n, rfl, h2, RpA.take n h3⟩
theorem RpA.dropLast : ∀ {ds : List Dt} {vs : List V}, RpA K H ds vs → RpA K H ds.dropLast vs.dropLast := fun {ds} {vs} h => by
  rw [List.dropLast_eq_take, List.dropLast_eq_take, RpA.len h]
  exact RpA.take _ h
theorem RpA.set : ∀ {ds : List Dt} {vs : List V} {d : Dt} {v : V} (j : Nat), RpA K H ds vs → Rp K H d v → RpA K H (ds.set j d) (vs.set j v)
  | [], vs, d, v, j, h, g => by
    rw [show vs = [] from h]
    exact (rfl : ([] : List V) = [])
  | d' :: ds, vs, d, v, 0, h, g => by
    obtain ⟨x, r, rfl, h2, h3⟩ := h
    exact ⟨v, r, rfl, g, h3⟩
  | d' :: ds, vs, d, v, j + 1, h, g => by
    obtain ⟨x, r, rfl, h2, h3⟩ := h
    exact ⟨x, r.set j v, rfl, h2, RpA.set j h3 g⟩

/-! ### values, cells, slots -/
/-- a tuple whose object is known: it has no dict -/
def NdT (H : Hp) (a : Addr) (vs : List V) : Prop := ∃ o : Obj, H a = some (.frz o (.tup vs)) ∧ o.cls = .type "tuple" ∧ o.dict = none
theorem NdT.sq {K : PySem.W.Frag} {H : Hp} {a : Addr} {vs : List V} (h : NdT H a vs) : SqT K H a vs := by
  obtain ⟨o, h, _⟩ := h
  exact .inl (.inr ⟨o, h⟩)
/-- at a: this very object -/
abbrev AtO (o : Obj) : HO := .frz o (.own 0)
/-- what is known of a lambda with one captured name: its function, its code, its cell -/
structure CloAt (H : Hp) (L : Lam) (f c : Addr) (v : V) (oc : Obj) : Prop where
  fn : ∃ (c' : Addr) (pm ctv : Value), H f = some (AtO (PySem.W.kla_obj "<lambda>" L.qual L.params L.body L.scope [(L.y, c)] pm c' ctv)) ∧ H c' = some (LamX.CodeO c' L.qual)
  cell : H c = some (AtO oc)
  is : ∃ z, oc.data = .cell (some z) ∧ RelV v z
theorem CloAt.ex {H H' : Hp} (g : Ex H H') {L : Lam} {f c : Addr} {v : V} {oc : Obj} (h : CloAt H L f c v oc) : CloAt H' L f c v oc := by
  obtain ⟨⟨c', pm, ctv, h1, h2⟩, h3, h4⟩ := h
  exact ⟨⟨c', pm, ctv, g f _ h1, g c' _ h2⟩, g c _ h3, h4⟩
mutual
def Rv (K : PySem.W.Frag) (μ : List Addr) (Hd : Hp) : Vl → V → Prop
  | .d d, v => Rp K Hd d v
  | .c k, v => ∃ a, μ[k]? = some a ∧ v = .ref a
  | .t rs, v => ∃ a vs, v = .ref a ∧ Hd a = some (.tup vs) ∧ RvL K μ Hd rs vs
  | .z ds, v => ∃ a vs, v = .ref a ∧ NdT Hd a vs ∧ RpA K Hd ds vs
  | .g L k, v => ∃ f c a oc, v = .ref f ∧ μ[k]? = some a ∧ CloAt Hd L f c (.ref a) oc
def RvL (K : PySem.W.Frag) (μ : List Addr) (Hd : Hp) : List Vl → List V → Prop
  | [], vs => vs = []
  | r :: rs, vs => ∃ x q, vs = x :: q ∧ Rv K μ Hd r x ∧ RvL K μ Hd rs q
end
structure Gr (μ : List Addr) (Hd : Hp) (μ' : List Addr) (Hd' : Hp) : Prop where
  pre : ∀ (k : Nat) (a : Addr), μ[k]? = some a → μ'[k]? = some a
  ex : Ex Hd Hd'
theorem Gr.refl (μ : List Addr) (Hd : Hp) : Gr μ Hd μ Hd := ⟨fun _ _ h => h, Ex.refl Hd⟩
theorem Gr.trans {μ μ1 μ2 : List Addr} {Hd H1 H2 : Hp} (a : Gr μ Hd μ1 H1) (b : Gr μ1 H1 μ2 H2) : Gr μ Hd μ2 H2 := ⟨fun k x h => b.pre k x (a.pre k x h), a.ex.trans b.ex⟩
mutual
theorem Rv.gr {μ μ' : List Addr} {Hd Hd' : Hp} (g : Gr μ Hd μ' Hd') : ∀ {r : Vl} {v : V}, Rv K μ Hd r v → Rv K μ' Hd' r v
  | .d d, v, h => Rp.ex g.ex d v h
  | .c k, v, ⟨a, h1, h2⟩ => ⟨a, g.pre k a h1, h2⟩
  | .t rs, v, ⟨a, vs, h1, h2, h3⟩ => ⟨a, vs, h1, g.ex a _ h2, RvL.gr g h3⟩
  | .z ds, v, ⟨a, vs, h1, ⟨o, h2, h4⟩, h3⟩ => ⟨a, vs, h1, ⟨o, g.ex a _ h2, h4⟩, RpA.ex g.ex _ _ h3⟩
  | .g L k, v, ⟨f, c, a, oc, h1, h2, h3⟩ => ⟨f, c, a, oc, h1, g.pre k a h2, h3.ex g.ex⟩
theorem RvL.gr {μ μ' : List Addr} {Hd Hd' : Hp} (g : Gr μ Hd μ' Hd') : ∀ {rs : List Vl} {vs : List V}, RvL K μ Hd rs vs → RvL K μ' Hd' rs vs
  | [], vs, h => h
  | r :: rs, vs, ⟨x, q, h1, h2, h3⟩ => ⟨x, q, h1, Rv.gr g h2, RvL.gr g h3⟩
end
inductive RvA (K : PySem.W.Frag) (μ : List Addr) (Hd : Hp) : List Vl → List V → Prop
  | nil : RvA K μ Hd [] []
  | cons {r : Vl} {v : V} {rs : List Vl} {vs : List V} : Rv K μ Hd r v → RvA K μ Hd rs vs → RvA K μ Hd (r :: rs) (v :: vs)
theorem RvA.gr {μ μ' : List Addr} {Hd Hd' : Hp} (g : Gr μ Hd μ' Hd') : ∀ {rs : List Vl} {vs : List V}, RvA K μ Hd rs vs → RvA K μ' Hd' rs vs
  | _, _, .nil => .nil
  | _, _, .cons h t => .cons (Rv.gr g h) (RvA.gr g t)
theorem RvA.len {μ : List Addr} : ∀ {rs : List Vl} {vs : List V}, RvA K μ Hd rs vs → vs.length = rs.length
  | _, _, .nil => rfl
  | _, _, .cons h t => by rw [List.length_cons, List.length_cons, RvA.len t]
/-- what stands at a place of a tree -/
def TrO (o : HO) : Prop := (∃ xs, o = .lst xs) ∨ (∃ kvs, o = .dK kvs) ∨ ∃ C dx fs, o = .ins C dx fs
def Tr.node : Tr → Bool
  | .dat _ => false
  | _ => true
/-- what an object holds, for a cell -/
def HoAt (K : PySem.W.Frag) (Hd : Hp) : Ce → HO → Prop
  | .dead, _ => True
  | .lst xs, o => ∃ vs, o = .lst vs ∧ RpA K Hd xs vs
  | .ins C ns ds, o => ∃ dx fs, o = .ins (clA K C) dx fs ∧ fs.map (·.1) = ns ∧ RpA K Hd ds (fs.map (·.2))
  | .dic ks ds, o => ∃ kvs, o = .dK kvs ∧ kvs.map (·.1) = ks ∧ RpA K Hd ds (kvs.map (·.2))
  | .dit ks ds, o => ∃ kvs, o = .dT kvs ∧ kvs.map (·.1) = ks ∧ RpA K Hd ds (kvs.map (·.2))
  | .pin u, o => o = u ∧ (∀ (c : Addr) (q : Str), u ≠ LamX.CodeO c q) ∧ ∀ ps, u ≠ .tbl ps
  | .lkd _ _, _ => True
  | .tr t, o => t.node = true ∧ TrO o
  | .sub _ _, _ => True
  | .tbl _ q, o => ∃ ps : Array Value, o = .tbl ps ∧ TriplesOk ps.toList ∧ ∀ (pos : Pos) (cv : Value), codeAmong pos ps.toList = some cv → ∃ c, cv = .ref c ∧ Hd c = some (LamX.CodeO c q)
theorem HoAt.ex {Hd Hd' : Hp} (g : Ex Hd Hd') : ∀ {c : Ce} {o : HO}, HoAt K Hd c o → HoAt K Hd' c o
  | .dead, _, _ => True.intro
  | .lst xs, o, ⟨vs, e, h⟩ => ⟨vs, e, RpA.ex g xs vs h⟩
  | .ins C ns ds, o, ⟨dx, fs, e, hn, h⟩ => ⟨dx, fs, e, hn, RpA.ex g _ _ h⟩
  | .dic ks ds, o, ⟨kvs, e, hn, h⟩ => ⟨kvs, e, hn, RpA.ex g _ _ h⟩
  | .dit ks ds, o, ⟨kvs, e, hn, h⟩ => ⟨kvs, e, hn, RpA.ex g _ _ h⟩
  | .pin u, o, h => h
  | .lkd _ _, _, _ => True.intro
  | .tr _, _, h => h
  | .sub _ _, _, _ => True.intro
  | .tbl _ q, o, ⟨ps, e, h1, h2⟩ => ⟨ps, e, h1, fun pos cv hc => by
    obtain ⟨c, e1, e2⟩ := h2 pos cv hc
    exact ⟨c, e1, g c _ e2⟩⟩
def Ce.live : Ce → Bool
  | .dead => false
  | .lkd _ _ => false
  | .sub _ _ => false
  | _ => true
def Ce.tree : Ce → Bool
  | .tr _ => true
  | _ => false
/-! ### nested things -/
mutual
def own : AT → List Addr
  | .no => []
  | .nd a as => a :: ownL as
def ownL : List AT → List Addr
  | [] => []
  | α :: as => own α ++ ownL as
end
def adr : AT → List Nat → Option Addr
  | .no, _ => none
  | .nd a _, [] => some a
  | .nd _ as, i :: π => match as[i]? with
    | some β => adr β π
    | none => none
mutual
def AtT (K : PySem.W.Frag) (Hd H : Hp) : Tr → AT → V → Prop
  | .dat d, α, v => α = .no ∧ Rp K Hd d v
  | .lst ts, α, v => ∃ a as vs, α = .nd a as ∧ v = .ref a ∧ Hd a = none ∧ H a = some (.lst vs) ∧ AtL K Hd H ts as vs
  | .dic ks ts, α, v => ∃ a as kvs, α = .nd a as ∧ v = .ref a ∧ Hd a = none ∧ H a = some (.dK kvs) ∧ kvs.map (·.1) = ks ∧ AtL K Hd H ts as (kvs.map (·.2))
  | .ins C ns ts, α, v => ∃ a as dx fs, α = .nd a as ∧ v = .ref a ∧ Hd a = none ∧ H a = some (.ins (clA K C) dx fs) ∧ fs.map (·.1) = ns ∧ AtL K Hd H ts as (fs.map (·.2))
def AtL (K : PySem.W.Frag) (Hd H : Hp) : List Tr → List AT → List V → Prop
  | [], as, vs => as = [] ∧ vs = []
  | t :: ts, as, vs => ∃ α ar v vr, as = α :: ar ∧ vs = v :: vr ∧ AtT K Hd H t α v ∧ AtL K Hd H ts ar vr
end
mutual
theorem AtT.at_ {Hd H : Hp} : ∀ {t : Tr} {α : AT} {v : V}, AtT K Hd H t α v → ∀ x ∈ own α, Hd x = none ∧ ∃ o, H x = some o ∧ TrO o
  | .dat d, α, v, ⟨e, _⟩, x, hx => by
    subst e
    cases hx
  | .lst ts, α, v, ⟨a, as, vs, e, _, h1, h2, h3⟩, x, hx => by
    subst e
    rcases List.mem_cons.mp hx with rfl | hx
    · exact ⟨h1, _, h2, by first | exact .inl ⟨_, rfl⟩ | exact .inr (.inl ⟨_, rfl⟩) | exact .inr (.inr ⟨_, _, _, rfl⟩)⟩
    · exact AtL.at_ h3 x hx
  | .dic ks ts, α, v, ⟨a, as, kvs, e, _, h1, h2, _, h3⟩, x, hx => by
    subst e
    rcases List.mem_cons.mp hx with rfl | hx
    · exact ⟨h1, _, h2, by first | exact .inl ⟨_, rfl⟩ | exact .inr (.inl ⟨_, rfl⟩) | exact .inr (.inr ⟨_, _, _, rfl⟩)⟩
    · exact AtL.at_ h3 x hx
  | .ins C ns ts, α, v, ⟨a, as, dx, fs, e, _, h1, h2, _, h3⟩, x, hx => by
    subst e
    rcases List.mem_cons.mp hx with rfl | hx
    · exact ⟨h1, _, h2, by first | exact .inl ⟨_, rfl⟩ | exact .inr (.inl ⟨_, rfl⟩) | exact .inr (.inr ⟨_, _, _, rfl⟩)⟩
    · exact AtL.at_ h3 x hx
theorem AtL.at_ {Hd H : Hp} : ∀ {ts : List Tr} {as : List AT} {vs : List V}, AtL K Hd H ts as vs → ∀ x ∈ ownL as, Hd x = none ∧ ∃ o, H x = some o ∧ TrO o
  | [], as, vs, ⟨e, _⟩, x, hx => by
    subst e
    cases hx
  | t :: ts, as, vs, ⟨α, ar, v, vr, e, _, h1, h2⟩, x, hx => by
    subst e
    rcases List.mem_append.mp hx with hx | hx
    · exact AtT.at_ h1 x hx
    · exact AtL.at_ h2 x hx
end
mutual
theorem AtT.keep {Hd Hd' H H' : Hp} (gp : ∀ d v, Rp K Hd d v → Rp K Hd' d v) : ∀ {t : Tr} {α : AT} {v : V}, (∀ x ∈ own α, H' x = H x ∧ Hd' x = none) → AtT K Hd H t α v → AtT K Hd' H' t α v
  | .dat d, α, v, _, ⟨e, h⟩ => ⟨e, gp d v h⟩
  | .lst ts, α, v, hk, ⟨a, as, vs, e, e2, h1, h2, h3⟩ => by
    subst e
    have k := hk a List.mem_cons_self
    exact ⟨a, as, vs, rfl, e2, k.2, by rw [k.1]; exact h2, AtL.keep gp (fun x hx => hk x (List.mem_cons_of_mem _ hx)) h3⟩
  | .dic ks ts, α, v, hk, ⟨a, as, kvs, e, e2, h1, h2, h4, h3⟩ => by
    subst e
    have k := hk a List.mem_cons_self
    exact ⟨a, as, kvs, rfl, e2, k.2, by rw [k.1]; exact h2, h4, AtL.keep gp (fun x hx => hk x (List.mem_cons_of_mem _ hx)) h3⟩
  | .ins C ns ts, α, v, hk, ⟨a, as, dx, fs, e, e2, h1, h2, h4, h3⟩ => by
    subst e
    have k := hk a List.mem_cons_self
    exact ⟨a, as, dx, fs, rfl, e2, k.2, by rw [k.1]; exact h2, h4, AtL.keep gp (fun x hx => hk x (List.mem_cons_of_mem _ hx)) h3⟩
theorem AtL.keep {Hd Hd' H H' : Hp} (gp : ∀ d v, Rp K Hd d v → Rp K Hd' d v) : ∀ {ts : List Tr} {as : List AT} {vs : List V}, (∀ x ∈ ownL as, H' x = H x ∧ Hd' x = none) → AtL K Hd H ts as vs → AtL K Hd' H' ts as vs
  | [], as, vs, _, h => h
  | t :: ts, as, vs, hk, ⟨α, ar, v, vr, e, e2, h1, h2⟩ => by
    subst e
    exact ⟨α, ar, v, vr, rfl, e2, AtT.keep gp (fun x hx => hk x (List.mem_append_left _ hx)) h1, AtL.keep gp (fun x hx => hk x (List.mem_append_right _ hx)) h2⟩
end
structure Trs (K : PySem.W.Frag) (μ : List Addr) (Hd H : Hp) (ce : List Ce) (α : Nat → AT) : Prop where
  t1 : ∀ (k : Nat) (t : Tr) (a : Addr), ce[k]? = some (.tr t) → μ[k]? = some a → AtT K Hd H t (α k) (.ref a)
  t2 : ∀ (k : Nat) (t : Tr), ce[k]? = some (.tr t) → (own (α k)).Nodup
  t3 : ∀ (j k : Nat) (t u : Tr) (x : Addr), ce[j]? = some (.tr t) → ce[k]? = some (.tr u) → x ∈ own (α j) → x ∈ own (α k) → j = k
  t4 : ∀ (k : Nat) (t : Tr) (x : Addr) (j : Nat) (c : Ce), ce[k]? = some (.tr t) → x ∈ own (α k) → ce[j]? = some c → c.live = true → μ[j]? = some x → j = k
  t5 : ∀ (j k : Nat) (π : List Nat) (t : Tr) (a : Addr), ce[j]? = some (.sub k π) → k < j → ce[k]? = some (.tr t) → μ[j]? = some a → adr (α k) π = some a
def TrsOk (K : PySem.W.Frag) (μ : List Addr) (Hd H : Hp) (ce : List Ce) : Prop := ∃ α, Trs K μ Hd H ce α
/-- what stays of nested things while others change; ι: where the trees stood -/
theorem TrsOk.keep {μ μ' : List Addr} {Hd Hd' H H' : Hp} {ce ce' : List Ce} (w : TrsOk K μ Hd H ce) (len : μ.length = ce.length) (gp : ∀ d v, Rp K Hd d v → Rp K Hd' d v) (ι : Nat → Nat)
    (h1 : ∀ k t, ce'[k]? = some (.tr t) → ce[ι k]? = some (.tr t) ∧ ∀ a, μ'[k]? = some a → μ[ι k]? = some a)
    (hi : ∀ j k t u, ce'[j]? = some (.tr t) → ce'[k]? = some (.tr u) → ι j = ι k → j = k)
    (h2 : ∀ j k π t a, ce'[j]? = some (.sub k π) → k < j → ce'[k]? = some (.tr t) → μ'[j]? = some a → ∃ i, ce[i]? = some (.sub (ι k) π) ∧ ι k < i ∧ μ[i]? = some a)
    (h4 : ∀ (j : Nat) (c : Ce) (a : Addr), ce'[j]? = some c → c.live = true → μ'[j]? = some a → (H a = none ∨ ∃ u, Hd a = some u) ∨ ∃ (i : Nat) (c0 : Ce), ce[i]? = some c0 ∧ c0.live = true ∧ μ[i]? = some a ∧ ∀ k t, ce'[k]? = some (.tr t) → ι k = i → k = j)
    (h5 : ∀ x o, H x = some o → Hd x = none → TrO o → (∀ (j : Nat) (c : Ce), ce[j]? = some c → c.live = true → c.tree = false → μ[j]? ≠ some x) → H' x = some o ∧ Hd' x = none) : TrsOk K μ' Hd' H' ce' := by
  obtain ⟨α, T⟩ := w
  have ow : ∀ k t, ce[k]? = some (.tr t) → ∀ x ∈ own (α k), H' x = H x ∧ Hd' x = none := fun k t hk x hx => by
    have hl := (List.getElem?_eq_some_iff.mp hk).1
    have hm : μ[k]? = some (μ[k]'(by omega)) := List.getElem?_eq_getElem (by omega)
    obtain ⟨q1, o, q2, q2'⟩ := AtT.at_ (T.t1 k t _ hk hm) x hx
    have := h5 x o q2 q1 q2' fun j c hj hl hn hx2 => by
      have e := T.t4 k t x j c hk hx hj hl hx2
      subst e
      rw [hk] at hj
      cases hj
      cases hn
    exact ⟨by rw [this.1, q2], this.2⟩
  refine ⟨fun k => α (ι k), ⟨fun k t a hk ha => ?_, fun k t hk => T.t2 _ t (h1 k t hk).1, fun j k t u x hj hk x1 x2 => ?_, fun k t x j c hk hx hj hl hm => ?_, fun j k π t a hj hlt hk ha => ?_⟩⟩
  · obtain ⟨q1, q2⟩ := h1 k t hk
    exact AtT.keep gp (ow _ t q1) (T.t1 _ t a q1 (q2 a ha))
  · exact hi j k t u hj hk (T.t3 _ _ t u x (h1 j t hj).1 (h1 k u hk).1 x1 x2)
  · obtain ⟨q1, _⟩ := h1 k t hk
    rcases h4 j c x hj hl hm with h | ⟨i, c0, i1, i2, i3, i4⟩
    · exfalso
      have hl2 := (List.getElem?_eq_some_iff.mp q1).1
      have hm2 : μ[ι k]? = some (μ[ι k]'(by omega)) := List.getElem?_eq_getElem (by omega)
      obtain ⟨q4, o, q3, _⟩ := AtT.at_ (T.t1 _ t _ q1 hm2) x hx
      rcases h with h | ⟨u, h⟩
      · rw [h] at q3
        cases q3
      · rw [h] at q4
        cases q4
    · exact (i4 k t hk (T.t4 _ t x i c0 q1 hx i1 i2 i3).symm).symm
  · obtain ⟨q1, _⟩ := h1 k t hk
    obtain ⟨i, i1, i2, i3⟩ := h2 j k π t a hj hlt hk ha
    exact T.t5 i (ι k) π t a i1 i2 q1 i3
def Ce.plain : Ce → Bool
  | .tr _ => false
  | .sub _ _ => false
  | _ => true
theorem TrsOk.same {μ : List Addr} {Hd Hd' H H' : Hp} {ce : List Ce} (w : TrsOk K μ Hd H ce) (len : μ.length = ce.length) (gx : Ex Hd Hd')
    (h5 : ∀ x o, H x = some o → Hd x = none → TrO o → (∀ (j : Nat) (c : Ce), ce[j]? = some c → c.live = true → c.tree = false → μ[j]? ≠ some x) → H' x = some o ∧ Hd' x = none) : TrsOk K μ Hd' H' ce :=
  w.keep len (Rp.ex gx) id (fun k t h => ⟨h, fun a h => h⟩) (fun _ _ _ _ _ _ e => e) (fun j k π t a hj hlt _ ha => ⟨j, hj, hlt, ha⟩) (fun j c a hj hl hm => .inr ⟨j, c, hj, hl, hm, fun _ _ _ e => e⟩) h5
theorem TrsOk.new {μ : List Addr} {Hd H H' : Hp} {ce : List Ce} {p : Addr} {c : Ce} (w : TrsOk K μ Hd H ce) (len : μ.length = ce.length) (hc : c.plain = true) (hp : H p = none) (h5 : ∀ x, x ≠ p → H' x = H x) : TrsOk K (μ ++ [p]) Hd H' (ce ++ [c]) := by
  have old : ∀ {k : Nat} {e : Ce}, (ce ++ [c])[k]? = some e → e.plain = false → ce[k]? = some e ∧ ∀ a, (μ ++ [p])[k]? = some a → μ[k]? = some a := fun {k e} h he => by
    by_cases hk : k < ce.length
    · refine ⟨by rw [List.getElem?_append_left hk] at h; exact h, fun a ha => ?_⟩
      rw [List.getElem?_append_left (by omega)] at ha
      exact ha
    · rw [List.getElem?_append_right (by omega)] at h
      cases q : k - ce.length with
      | zero =>
        rw [q] at h
        cases h
        rw [hc] at he
        cases he
      | succ n =>
        rw [q] at h
        cases h
  refine w.keep len (fun _ _ h => h) id (fun k t h => old h rfl) (fun _ _ _ _ _ _ e => e) (fun j k π t a hj hlt _ ha => ⟨j, (old hj rfl).1, hlt, (old hj rfl).2 a ha⟩) (fun j e a hj hl hm => ?_) fun x o hx hd _ _ => ⟨by rw [h5 x (fun z => by rw [z, hp] at hx; cases hx)]; exact hx, hd⟩
  by_cases hk : j < ce.length
  · rw [List.getElem?_append_left hk] at hj
    rw [List.getElem?_append_left (by omega)] at hm
    exact .inr ⟨j, e, hj, hl, hm, fun _ _ _ e => e⟩
  · rw [List.getElem?_append_right (by omega)] at hm
    cases q : j - μ.length with
    | zero =>
      rw [q] at hm
      cases hm
      exact .inl (.inl hp)
    | succ n =>
      rw [q] at hm
      cases hm
theorem TrsOk.put {μ : List Addr} {Hd Hd' H H' : Hp} {ce : List Ce} {k : Nat} {a : Addr} {c c' : Ce} (w : TrsOk K μ Hd H ce) (len : μ.length = ce.length) (gx : Ex Hd Hd') (hk : ce[k]? = some c) (hl : c.live = true) (hc : c.tree = false) (hp : c'.plain = true) (ha : μ[k]? = some a)
    (h5 : ∀ x o, H x = some o → Hd x = none → x ≠ a → H' x = some o ∧ Hd' x = none) : TrsOk K μ Hd' H' (ce.set k c') := by
  have old : ∀ {j : Nat} {e : Ce}, (ce.set k c')[j]? = some e → e.plain = false → ce[j]? = some e := fun {j e} h he => by
    rw [List.getElem?_set] at h
    by_cases hj : k = j
    · subst hj
      rw [if_pos rfl, if_pos (List.getElem?_eq_some_iff.mp hk).1] at h
      cases h
      rw [hp] at he
      cases he
    · rw [if_neg hj] at h
      exact h
  refine w.keep len (Rp.ex gx) id (fun j t h => ⟨old h rfl, fun _ h => h⟩) (fun _ _ _ _ _ _ e => e) (fun j i π t b hj hlt _ hb => ⟨j, old hj rfl, hlt, hb⟩) (fun j e b hj hl2 hm => ?_) fun x o hx hd _ hn => h5 x o hx hd fun z => hn k c hk hl hc (z ▸ ha)
  rw [List.getElem?_set] at hj
  by_cases hkj : k = j
  · subst hkj
    exact .inr ⟨k, c, hk, hl, hm, fun _ _ _ e => e⟩
  · rw [if_neg hkj] at hj
    exact .inr ⟨j, e, hj, hl2, hm, fun _ _ _ e => e⟩
theorem TrsOk.take {μ : List Addr} {Hd H : Hp} {ce : List Ce} (w : TrsOk K μ Hd H ce) (len : μ.length = ce.length) (n : Nat) : TrsOk K (μ.take n) Hd H (ce.take n) := by
  have tk : ∀ {α : Type} {l : List α} {k : Nat} {x : α}, (l.take n)[k]? = some x → l[k]? = some x := fun {α l k x} h => by
    rw [List.getElem?_take] at h
    split at h
    · exact h
    · cases h
  exact w.keep len (fun _ _ h => h) id (fun k t h => ⟨tk h, fun a h => tk h⟩) (fun _ _ _ _ _ _ e => e) (fun j k π t a hj hlt _ ha => ⟨j, tk hj, hlt, tk ha⟩) (fun j c a hj hl hm => .inr ⟨j, c, tk hj, hl, tk hm, fun _ _ _ e => e⟩) fun x o hx hd _ _ => ⟨hx, hd⟩
theorem TrsOk.trim {μ : List Addr} {Hd H : Hp} {ce : List Ce} {n k : Nat} {a : Addr} {c : Ce} (w : TrsOk K μ Hd H ce) (len : μ.length = ce.length) (hn : n ≤ k) (hk : ce[k]? = some c) (ha : μ[k]? = some a) : TrsOk K (μ.take n ++ [a]) Hd H (ce.take n ++ [c]) := by
  have hl := (List.getElem?_eq_some_iff.mp hk).1
  have lt : (μ.take n).length = n := by rw [List.length_take]; omega
  have lc : (ce.take n).length = n := by rw [List.length_take]; omega
  have cs : ∀ {i : Nat} {e : Ce}, (ce.take n ++ [c])[i]? = some e → (i < n ∧ ce[i]? = some e ∧ ∀ b, (μ.take n ++ [a])[i]? = some b → μ[i]? = some b) ∨ (i = n ∧ e = c ∧ ∀ b, (μ.take n ++ [a])[i]? = some b → b = a) := fun {i e} h => by
    by_cases hi : i < n
    · refine .inl ⟨hi, ?_, fun b hb => ?_⟩
      · rw [List.getElem?_append_left (by omega), List.getElem?_take_of_lt hi] at h
        exact h
      · rw [List.getElem?_append_left (by omega), List.getElem?_take_of_lt hi] at hb
        exact hb
    · rw [List.getElem?_append_right (by omega), lc] at h
      cases q : i - n with
      | zero =>
        rw [q] at h
        cases h
        refine .inr ⟨by omega, rfl, fun b hb => ?_⟩
        rw [List.getElem?_append_right (by omega), lt, q] at hb
        cases hb
        rfl
      | succ m =>
        rw [q] at h
        cases h
  refine w.keep len (fun _ _ h => h) (fun i => if i < n then i else k) (fun i t h => ?_) (fun i j t u h1 h2 e => ?_) (fun j i π t b hj hlt hi hb => ?_) (fun j e b hj hl2 hm => ?_) fun x o hx hd _ _ => ⟨hx, hd⟩
  · rcases cs h with ⟨h1, h2, h3⟩ | ⟨h1, h2, h3⟩
    · rw [if_pos h1]
      exact ⟨h2, h3⟩
    · rw [if_neg (by omega)]
      exact ⟨by rw [hk, h2], fun b hb => by rw [h3 b hb]; exact ha⟩
  · rcases cs h1 with ⟨q1, _⟩ | ⟨q1, _⟩ <;> rcases cs h2 with ⟨q2, _⟩ | ⟨q2, _⟩
    · rw [if_pos q1, if_pos q2] at e
      exact e
    · rw [if_pos q1, if_neg (by omega)] at e
      omega
    · rw [if_neg (by omega), if_pos q2] at e
      omega
    · omega
  · rcases cs hj with ⟨q1, q2, q3⟩ | ⟨q1, q2, q3⟩
    · rw [if_pos (by omega)]
      exact ⟨j, q2, hlt, q3 b hb⟩
    · rw [if_pos (by omega)]
      exact ⟨k, by rw [hk, ← q2], by omega, by rw [q3 b hb]; exact ha⟩
  · rcases cs hj with ⟨q1, q2, q3⟩ | ⟨q1, q2, q3⟩
    · refine .inr ⟨j, e, q2, hl2, q3 b hm, fun i t hi ei => ?_⟩
      rcases cs hi with ⟨r1, _⟩ | ⟨r1, _⟩
      · rw [if_pos r1] at ei
        exact ei
      · rw [if_neg (by omega)] at ei
        omega
    · refine .inr ⟨k, c, hk, by rw [← q2]; exact hl2, by rw [q3 b hm]; exact ha, fun i t hi ei => ?_⟩
      rcases cs hi with ⟨r1, _⟩ | ⟨r1, _⟩
      · rw [if_pos r1] at ei
        omega
      · omega
theorem TrsOk.empty {μ : List Addr} {Hd H : Hp} {ce : List Ce} (h : ∀ (k : Nat) (t : Tr), ce[k]? ≠ some (Ce.tr t)) : TrsOk K μ Hd H ce :=
  ⟨fun _ => .no, ⟨fun k t a hk _ => absurd hk (h k t), fun k t hk => absurd hk (h k t), fun j k t u x hj => absurd hj (h j t), fun k t x j c hk => absurd hk (h k t), fun j k π t a _ _ hk => absurd hk (h k t)⟩⟩
theorem TrsOk.kill {μ : List Addr} {Hd H : Hp} {ce ce' : List Ce} (w : TrsOk K μ Hd H ce) (len : μ.length = ce.length) (h : ∀ (k : Nat) (e : Ce), ce'[k]? = some e → e ≠ .dead → ce[k]? = some e) : TrsOk K μ Hd H ce' :=
  w.keep len (fun _ _ h => h) id (fun k t hk => ⟨h k _ hk (by intro z; cases z), fun a h => h⟩) (fun _ _ _ _ _ _ e => e) (fun j k π t a hj hlt _ ha => ⟨j, h j _ hj (by intro z; cases z), hlt, ha⟩) (fun j c a hj hl hm => .inr ⟨j, c, h j c hj (by intro z; subst z; cases hl), hl, hm, fun _ _ _ e => e⟩) fun x o h1 h2 _ _ => ⟨h1, h2⟩
structure Wo (K : PySem.W.Frag) (μ : List Addr) (Hd H : Hp) (ce : List Ce) : Prop where
  ex : ExS Hd H
  len : μ.length = ce.length
  lk : ∀ (k : Nat) (a : Addr) (ks : List Key) (ds : List Dt), ce[k]? = some (.lkd ks ds) → μ[k]? = some a → (∃ od kvs, Hd a = some (.frz od (.frz od (.dK kvs))) ∧ kvs.map (·.1) = ks ∧ RpA K Hd ds (kvs.map (·.2))) ∧ ∀ (j : Nat) (ks' : List Key) (ds' : List Dt), ce[j]? = some (.lkd ks' ds') → μ[j]? = some a → j = k
  at_ : ∀ (k : Nat) (c : Ce) (a : Addr), ce[k]? = some c → μ[k]? = some a → c.live = true → Hd a = none ∧ ∃ o, H a = some o ∧ HoAt K Hd c o
  inj : ∀ (j k : Nat) (a : Addr) (c e : Ce), μ[j]? = some a → μ[k]? = some a → ce[j]? = some c → ce[k]? = some e → c.live = true → e.live = true → j = k
  tb : ∀ (k : Nat) (a P : Addr) (q : Str), ce[k]? = some (.tbl P q) → μ[k]? = some a → a = P ∧ k = 0
  trs : TrsOk K μ Hd H ce
theorem Wo.lst {μ : List Addr} {ce : List Ce} {k : Nat} {a : Addr} {xs : List Dt} (w : Wo K μ Hd H ce) (hk : ce[k]? = some (.lst xs)) (ha : μ[k]? = some a) : Hd a = none ∧ ∃ vs, H a = some (.lst vs) ∧ RpA K Hd xs vs := by
  obtain ⟨h1, o, h2, vs, rfl, h3⟩ := w.at_ k _ a hk ha rfl
  exact ⟨h1, vs, h2, h3⟩
def Sl (K : PySem.W.Frag) (μ : List Addr) (Hd : Hp) (σ : L2.St) (sl : List (Option Vl)) : Prop :=
  σ.length = sl.length ∧ ∀ (i : Nat) (r : Vl), sl[i]? = some (some r) → ∃ v, σ[i]? = some (some v) ∧ Rv K μ Hd r v
structure Rl (K : PySem.W.Frag) (μ : List Addr) (Hd H : Hp) (σ : L2.St) (E : En) : Prop where
  wo : Wo K μ Hd H E.ce
  sl : Sl K μ Hd σ E.sl
theorem Sl.gr {μ μ' : List Addr} {Hd Hd' : Hp} {σ : L2.St} {sl : List (Option Vl)} (g : Gr μ Hd μ' Hd') (h : Sl K μ Hd σ sl) : Sl K μ' Hd' σ sl :=
  ⟨h.1, fun i r e => by
    obtain ⟨v, h1, h2⟩ := h.2 i r e
    exact ⟨v, h1, Rv.gr g h2⟩⟩
theorem Sl.set {μ : List Addr} {σ : L2.St} {sl : List (Option Vl)} {r : Vl} {v : V} (i : Nat) (h : Sl K μ Hd σ sl) (hv : Rv K μ Hd r v) : Sl K μ Hd (σ.set i (some v)) (sl.set i (some r)) := by
  refine ⟨by rw [List.length_set, List.length_set]; exact h.1, fun j q e => ?_⟩
  rw [List.getElem?_set] at e
  by_cases hij : i = j
  · subst hij
    rw [if_pos rfl] at e
    by_cases hl : i < sl.length
    · rw [if_pos hl] at e
      have e2 : r = q := Option.some.inj (Option.some.inj e)
      subst e2
      exact ⟨v, by rw [List.getElem?_set, if_pos rfl, if_pos (by rw [h.1]; exact hl)], hv⟩
    · rw [if_neg hl] at e
      cases e
  · rw [if_neg hij] at e
    obtain ⟨w, h1, h2⟩ := h.2 j q e
    exact ⟨w, by rw [List.getElem?_set, if_neg hij]; exact h1, h2⟩
/-- a slot forgotten -/
theorem Sl.wipe1 {μ : List Addr} {σ : L2.St} {sl : List (Option Vl)} (i : Nat) (h : Sl K μ Hd σ sl) : Sl K μ Hd (σ.set i none) (sl.set i none) := by
  refine ⟨by rw [List.length_set, List.length_set]; exact h.1, fun j q e => ?_⟩
  rw [List.getElem?_set] at e
  by_cases hij : i = j
  · subst hij
    rw [if_pos rfl] at e
    by_cases hl : i < sl.length
    · rw [if_pos hl] at e
      cases e
    · rw [if_neg hl] at e
      cases e
  · rw [if_neg hij] at e
    obtain ⟨w, h1, h2⟩ := h.2 j q e
    exact ⟨w, by rw [List.getElem?_set, if_neg hij]; exact h1, h2⟩

/-! ### what is seen of a value now; freezing; new things -/
/-- a cell as data -/
def dataC : Ce → Option Dt
  | .lst xs => some (.lst xs)
  | .ins C ns ds => some (.obj C ns ds)
  | .dic ks ds => some (.dic ks ds)
  | _ => none
theorem dataC_ok {c : Ce} {d : Dt} {o : HO} {a : Addr} (e : dataC c = some d) (h : HoAt K Hd c o) (hn : Hd a = none) : c.live = true ∧ Rp K (upd Hd a o) d (.ref a) := by
  have gx : Ex Hd (upd Hd a o) := Ex.new hn
  cases c with
  | dead => cases e
  | pin u => cases e
  | dit ks rs => cases e
  | lst xs =>
    cases e
    obtain ⟨vs, rfl, h⟩ := h
    exact ⟨rfl, a, vs, rfl, upd_same, RpA.ex gx _ _ h⟩
  | ins C ns rs =>
    cases e
    obtain ⟨dx, fs, rfl, hf, h⟩ := h
    exact ⟨rfl, a, dx, fs, rfl, upd_same, hf, RpA.ex gx _ _ h⟩
  | dic ks rs =>
    cases e
    obtain ⟨kvs, rfl, hf, h⟩ := h
    exact ⟨rfl, a, kvs, rfl, .inl upd_same, hf, RpA.ex gx _ _ h⟩
  | lkd ks rs => cases e
  | tbl P q => cases e
  | tr t => cases e
  | sub k π => cases e
theorem dataC_strip {c : Ce} {d : Dt} {o : HO} (e : dataC c = some d) (h : HoAt K Hd c o) : strip o = o := by
  cases c with
  | lst xs =>
    obtain ⟨vs, rfl, h⟩ := h
    rfl
  | ins C ns rs =>
    obtain ⟨dx, fs, rfl, hf, h⟩ := h
    rfl
  | dic ks rs =>
    obtain ⟨kvs, rfl, hf, h⟩ := h
    rfl
  | _ => cases e
theorem dataC_at {c : Ce} {d : Dt} {o : HO} {a : Addr} (x : ExS Hd H) (e : dataC c = some d) (h : HoAt K Hd c o) (ha : H a = some o) (hn : Hd a = none) : Rp K H d (.ref a) := by
  have hs := dataC_strip e h
  refine Rp.exS (fun b u hb => ?_) _ _ (dataC_ok e h hn).2
  by_cases q : b = a
  · subst q
    rw [upd_same] at hb
    cases hb
    rw [hs]
    exact ha
  · rw [upd_ne q] at hb
    exact x b u hb
theorem seeC_some {o : Option Ce} {d : Dt} (h : o.bind dataC = some d) : ∃ c, o = some c ∧ dataC c = some d := by
  cases o with
  | none => cases h
  | some c => exact ⟨c, rfl, h⟩
/-- all of them data -/
def leaves : List Tr → Option (List Dt)
  | [] => some []
  | .dat d :: ts => (leaves ts).map (d :: ·)
  | _ :: _ => none
/-- a nested thing in which nothing else is nested, as data -/
def flat : Tr → Option Dt
  | .dat _ => none
  | .lst ts => (leaves ts).map .lst
  | .dic ks ts => (leaves ts).map (.dic ks)
  | .ins C ns ts => (leaves ts).map (.obj C ns)
def kidsT : Tr → List Tr
  | .dat _ => []
  | .lst ts => ts
  | .dic _ ts => ts
  | .ins _ _ ts => ts
def subT : Tr → List Nat → Option Tr
  | t, [] => some t
  | t, i :: π => match (kidsT t)[i]? with
    | some u => subT u π
    | none => none
/-- what stands at a cell, or at a place in one -/
def nodeT (ce : List Ce) (j : Nat) : Option (Nat × List Nat × Tr) := match ce[j]? with
  | some (.tr t) => if t.node = true then some (j, [], t) else none
  | some (.sub k π) => if k < j then match ce[k]? with
    | some (.tr t) => (subT t π).map fun s => (k, π, s)
    | _ => none
    else none
  | _ => none
def seeN (ce : List Ce) (j : Nat) : Option Dt := match nodeT ce j with
  | some (_, _, s) => flat s
  | none => none
def see (ce : List Ce) : Vl → Option Dt
  | .d d => some d
  | .c k => match (ce[k]?).bind dataC with
    | some d => some d
    | none => seeN ce k
  | .t _ => none
  | .g _ _ => none
  | .z ds => some (.tup ds)
theorem AtL.get {Hd H : Hp} : ∀ {ts : List Tr} {as : List AT} {vs : List V}, AtL K Hd H ts as vs → ∀ {i : Nat} {u : Tr}, ts[i]? = some u → ∃ β w, as[i]? = some β ∧ vs[i]? = some w ∧ AtT K Hd H u β w
  | [], as, vs, _, i, u, h => by cases h
  | t :: ts, as, vs, ⟨α, ar, v, vr, e, e2, h1, h2⟩, i, u, h => by
    subst e e2
    cases i with
    | zero =>
      cases h
      exact ⟨α, v, rfl, rfl, h1⟩
    | succ i => exact AtL.get (ts := ts) h2 h
theorem AtL.len {Hd H : Hp} : ∀ {ts : List Tr} {as : List AT} {vs : List V}, AtL K Hd H ts as vs → as.length = ts.length ∧ vs.length = ts.length
  | [], as, vs, ⟨e, e2⟩ => by
    subst e e2
    exact ⟨rfl, rfl⟩
  | t :: ts, as, vs, ⟨α, ar, v, vr, e, e2, _, h2⟩ => by
    subst e e2
    obtain ⟨l1, l2⟩ := AtL.len h2
    rw [List.length_cons, List.length_cons, List.length_cons, l1, l2]
    exact ⟨rfl, rfl⟩
theorem own_get : ∀ {as : List AT} {i : Nat} {β : AT}, as[i]? = some β → ∀ x ∈ own β, x ∈ ownL as
  | [], i, β, h => by cases h
  | α :: as, 0, β, h => fun x hx => by
    cases h
    exact List.mem_append_left _ hx
  | α :: as, i + 1, β, h => fun x hx => List.mem_append_right _ (own_get (as := as) h x hx)
/-- the node of a path -/
theorem AtT.sub {Hd H : Hp} : ∀ {π : List Nat} {t s : Tr} {α : AT} {v : V} {a : Addr}, AtT K Hd H t α v → subT t π = some s → adr α π = some a → ∃ β, AtT K Hd H s β (.ref a) ∧ ∀ x ∈ own β, x ∈ own α
  | [], t, s, α, v, a, h, hs, ha => by
    cases hs
    cases t with
    | dat d =>
      obtain ⟨rfl, _⟩ := h
      cases ha
    | lst ts =>
      obtain ⟨b, as, vs, rfl, rfl, h⟩ := h
      cases ha
      exact ⟨_, ⟨_, as, vs, rfl, rfl, h⟩, fun x h => h⟩
    | dic ks ts =>
      obtain ⟨b, as, vs, rfl, rfl, h⟩ := h
      cases ha
      exact ⟨_, ⟨_, as, vs, rfl, rfl, h⟩, fun x h => h⟩
    | ins C ns ts =>
      obtain ⟨b, as, dx, fs, rfl, rfl, h⟩ := h
      cases ha
      exact ⟨_, ⟨_, as, dx, fs, rfl, rfl, h⟩, fun x h => h⟩
  | i :: π, t, s, α, v, a, h, hs, ha => by
    have one : ∀ {b : Addr} {as : List AT} {vs : List V} {ts : List Tr}, kidsT t = ts → α = .nd b as → AtL K Hd H ts as vs → ∃ β, AtT K Hd H s β (.ref a) ∧ ∀ x ∈ own β, x ∈ own α := fun {b as vs ts} e1 e2 h2 => by
      subst e2
      unfold subT at hs
      rw [e1] at hs
      cases q : ts[i]? with
      | none =>
        rw [q] at hs
        cases hs
      | some u =>
        rw [q] at hs
        obtain ⟨β, w, q1, _, q3⟩ := AtL.get h2 q
        have ha : (match as[i]? with | some β => adr β π | none => none) = some a := ha
        rw [q1] at ha
        obtain ⟨γ, g1, g2⟩ := AtT.sub q3 hs ha
        exact ⟨γ, g1, fun x hx => List.mem_cons_of_mem _ (own_get q1 x (g2 x hx))⟩
    cases t with
    | dat d =>
      unfold subT at hs
      cases hs
    | lst ts =>
      obtain ⟨b, as, vs, e, _, _, _, h2⟩ := h
      exact one rfl e h2
    | dic ks ts =>
      obtain ⟨b, as, vs, e, _, _, _, _, h2⟩ := h
      exact one rfl e h2
    | ins C ns ts =>
      obtain ⟨b, as, dx, fs, e, _, _, _, _, h2⟩ := h
      exact one rfl e h2
theorem leaves_ok {Hd H : Hp} : ∀ {ts : List Tr} {as : List AT} {vs : List V} {ds : List Dt}, AtL K Hd H ts as vs → leaves ts = some ds → RpA K Hd ds vs
  | [], as, vs, ds, ⟨_, e⟩, h => by
    cases h
    exact e
  | .dat d :: ts, as, vs, ds, ⟨α, ar, v, vr, e, e2, ⟨_, h1⟩, h2⟩, h => by
    obtain ⟨es, q1, q2⟩ := Option.map_eq_some_iff.mp h
    subst q2 e2
    exact ⟨v, vr, rfl, h1, leaves_ok h2 q1⟩
  | .lst _ :: ts, as, vs, ds, _, h => by cases h
  | .dic _ _ :: ts, as, vs, ds, _, h => by cases h
  | .ins _ _ _ :: ts, as, vs, ds, _, h => by cases h
theorem root_adr {Hd H : Hp} {t : Tr} {α : AT} {a : Addr} (hn : t.node = true) (h : AtT K Hd H t α (.ref a)) : adr α [] = some a := by
  cases t with
  | dat d => cases hn
  | lst ts =>
    obtain ⟨b, as, vs, rfl, e2, _⟩ := h
    cases e2
    rfl
  | dic ks ts =>
    obtain ⟨b, as, vs, rfl, e2, _⟩ := h
    cases e2
    rfl
  | ins C ns ts =>
    obtain ⟨b, as, dx, fs, rfl, e2, _⟩ := h
    cases e2
    rfl
/-- what is seen of a node -/
theorem node_ok {μ : List Addr} {Hd H : Hp} {ce : List Ce} {α : Nat → AT} (w : Trs K μ Hd H ce α) (len : μ.length = ce.length) {j k : Nat} {π : List Nat} {s : Tr} {a : Addr} (h : nodeT ce j = some (k, π, s)) (ha : μ[j]? = some a) :
    ∃ t b, ce[k]? = some (.tr t) ∧ μ[k]? = some b ∧ AtT K Hd H t (α k) (.ref b) ∧ subT t π = some s ∧ adr (α k) π = some a := by
  unfold nodeT at h
  split at h
  · rename_i t hk
    split at h
    · rename_i hn
      cases h
      exact ⟨_, a, hk, ha, w.t1 _ _ _ hk ha, rfl, root_adr hn (w.t1 _ _ _ hk ha)⟩
    · cases h
  · rename_i k' π' hk
    split at h
    · rename_i hlt
      split at h
      · rename_i t ht
        obtain ⟨s', q1, q2⟩ := Option.map_eq_some_iff.mp h
        cases q2
        have hl := (List.getElem?_eq_some_iff.mp ht).1
        have hm : μ[k]? = some (μ[k]'(by omega)) := List.getElem?_eq_getElem (by omega)
        exact ⟨t, _, ht, hm, w.t1 _ _ _ ht hm, q1, w.t5 j k π t a hk hlt ht ha⟩
      · cases h
    · cases h
  · cases h
theorem dataC_live {c : Ce} {d : Dt} (h : dataC c = some d) : c.live = true := by
  cases c <;> first | rfl | cases h
theorem seeC_or {ce : List Ce} {k : Nat} {d : Dt} (h : see ce (.c k) = some d) : (∃ c, ce[k]? = some c ∧ dataC c = some d) ∨ seeN ce k = some d := by
  have h : (match (ce[k]?).bind dataC with | some d => some d | none => seeN ce k) = some d := h
  cases q : (ce[k]?).bind dataC with
  | some e =>
    rw [q] at h
    cases h
    exact .inl (seeC_some q)
  | none =>
    rw [q] at h
    exact .inr h
theorem seeN_kind {ce : List Ce} {k : Nat} {d : Dt} (h : seeN ce k = some d) : (∃ xs, d = .lst xs) ∨ (∃ C ns xs, d = .obj C ns xs) ∨ ∃ ks xs, d = .dic ks xs := by
  unfold seeN at h
  split at h
  · rename_i k' π s hs
    cases s with
    | dat e => cases h
    | lst ts =>
      obtain ⟨es, e1, rfl⟩ := Option.map_eq_some_iff.mp h
      exact .inl ⟨_, rfl⟩
    | dic ks ts =>
      obtain ⟨es, e1, rfl⟩ := Option.map_eq_some_iff.mp h
      exact .inr (.inr ⟨_, _, rfl⟩)
    | ins C ns ts =>
      obtain ⟨es, e1, rfl⟩ := Option.map_eq_some_iff.mp h
      exact .inr (.inl ⟨_, _, _, rfl⟩)
  · cases h
theorem seeN_ok {μ : List Addr} {ce : List Ce} {k : Nat} {a : Addr} {d : Dt} (w : Wo K μ Hd H ce) (ha : μ[k]? = some a) (h : seeN ce k = some d) : Rp K H d (.ref a) ∧ ((∃ xs, d = .lst xs ∧ ∃ vs, H a = some (.lst vs) ∧ RpA K Hd xs vs) ∨ (∃ C ns xs, d = .obj C ns xs ∧ ∃ dx fs, H a = some (.ins (clA K C) dx fs) ∧ fs.map (·.1) = ns ∧ RpA K Hd xs (fs.map (·.2))) ∨ (∃ ks xs, d = .dic ks xs ∧ ∃ kvs, H a = some (.dK kvs) ∧ kvs.map (·.1) = ks ∧ RpA K Hd xs (kvs.map (·.2)))) := by
  obtain ⟨α, T⟩ := w.trs
  unfold seeN at h
  split at h
  · rename_i k' π s hs
    obtain ⟨t, b, q1, q2, q3, q4, q5⟩ := node_ok T w.len hs ha
    obtain ⟨β, q6, _⟩ := AtT.sub q3 q4 q5
    cases s with
    | dat e => cases h
    | lst ts =>
      obtain ⟨es, e1, rfl⟩ := Option.map_eq_some_iff.mp h
      obtain ⟨c, as, vs, _, e2, _, e3, e4⟩ := q6
      cases e2
      have hl := leaves_ok e4 e1
      exact ⟨⟨a, vs, rfl, e3, RpA.exS w.ex _ _ hl⟩, .inl ⟨es, rfl, vs, e3, hl⟩⟩
    | dic ks ts =>
      obtain ⟨es, e1, rfl⟩ := Option.map_eq_some_iff.mp h
      obtain ⟨c, as, kvs, _, e2, _, e3, e5, e4⟩ := q6
      cases e2
      have hl := leaves_ok e4 e1
      exact ⟨⟨a, kvs, rfl, .inl e3, e5, RpA.exS w.ex _ _ hl⟩, .inr (.inr ⟨ks, es, rfl, kvs, e3, e5, hl⟩)⟩
    | ins C ns ts =>
      obtain ⟨es, e1, rfl⟩ := Option.map_eq_some_iff.mp h
      obtain ⟨c, as, dx, fs, _, e2, _, e3, e5, e4⟩ := q6
      cases e2
      have hl := leaves_ok e4 e1
      exact ⟨⟨a, dx, fs, rfl, e3, e5, RpA.exS w.ex _ _ hl⟩, .inr (.inl ⟨C, ns, es, rfl, dx, fs, e3, e5, hl⟩)⟩
  · cases h
theorem see_ok {μ : List Addr} {ce : List Ce} {r : Vl} {v : V} {d : Dt} (w : Wo K μ Hd H ce) (hv : Rv K μ Hd r v) (h : see ce r = some d) : Rp K H d v := by
  cases r with
  | d d' =>
    have e : d' = d := Option.some.inj h
    subst e
    exact Rp.exS w.ex d' v hv
  | c k =>
    obtain ⟨a, e2, rfl⟩ := hv
    rcases seeC_or h with ⟨c, e1, e3⟩ | h
    · obtain ⟨h1, o, h2, h3⟩ := w.at_ k c a e1 e2 (dataC_live e3)
      exact dataC_at w.ex e3 h3 h2 h1
    · exact (seeN_ok w e2 h).1
  | t rs => cases h
  | g L j => cases h
  | z ds =>
    cases h
    obtain ⟨a, vs, h1, h2, h3⟩ := hv
    exact ⟨a, vs, h1, exs_t w.ex h2.sq, RpA.exS w.ex _ _ h3⟩
/-- a list that is seen: its items are data -/
theorem see_lst {μ : List Addr} {ce : List Ce} {r : Vl} {v : V} {ds : List Dt} (w : Wo K μ Hd H ce) (hv : Rv K μ Hd r v) (h : see ce r = some (.lst ds)) : ∃ a vs, v = .ref a ∧ H a = some (.lst vs) ∧ RpA K Hd ds vs := by
  cases r with
  | d d' =>
    have e : d' = .lst ds := Option.some.inj h
    subst e
    obtain ⟨a, vs, h1, h2, h3⟩ := hv
    exact ⟨a, vs, h1, w.ex a _ h2, h3⟩
  | c k =>
    obtain ⟨a, e2, rfl⟩ := hv
    rcases seeC_or h with ⟨c, e1, e3⟩ | h
    · obtain ⟨h1, o, h2, h3⟩ := w.at_ k c a e1 e2 (dataC_live e3)
      cases c with
      | lst xs =>
        cases e3
        obtain ⟨vs, rfl, h3⟩ := h3
        exact ⟨a, vs, rfl, h2, h3⟩
      | _ => cases e3
    · rcases (seeN_ok w e2 h).2 with ⟨xs, e, vs, h1, h2⟩ | ⟨C, ns, xs, e, _⟩ | ⟨ks, xs, e, _⟩
      · cases e
        exact ⟨a, vs, rfl, h1, h2⟩
      · cases e
      · cases e
  | t rs => cases h
  | g L j => cases h
  | z ds => cases h
theorem see_dat {ce : List Ce} {r : Vl} {d : Dt} (h : see ce r = some d) (hd : (∀ xs, d ≠ .lst xs) ∧ (∀ C ns xs, d ≠ .obj C ns xs) ∧ (∀ ks xs, d ≠ .dic ks xs) ∧ ∀ xs, d ≠ .tup xs) : r = .d d := by
  cases r with
  | d d' => rw [Option.some.inj h]
  | c k =>
    rcases seeC_or h with ⟨c, e1, e3⟩ | h
    · cases c with
      | lst xs =>
        cases e3
        exact absurd rfl (hd.1 _)
      | ins C ns rs =>
        cases e3
        exact absurd rfl (hd.2.1 _ _ _)
      | dic ks rs =>
        cases e3
        exact absurd rfl (hd.2.2.1 _ _)
      | _ => cases e3
    · rcases seeN_kind h with ⟨xs, e⟩ | ⟨C, ns, xs, e⟩ | ⟨ks, xs, e⟩
      · exact absurd e (hd.1 _)
      · exact absurd e (hd.2.1 _ _ _)
      · exact absurd e (hd.2.2.1 _ _)
  | t rs => cases h
  | g L j => cases h
  | z ds =>
    cases h
    exact absurd rfl (hd.2.2.2 _)
/-- what is seen as a tuple stands on the data's heap -/
theorem see_flat {μ : List Addr} {ce : List Ce} {r : Vl} {v : V} {xs : List Dt} (hv : Rv K μ Hd r v) (h : see ce r = some (.tup xs)) : Rv K μ Hd (.d (.tup xs)) v := by
  cases r with
  | d d' =>
    rw [← (Option.some.inj h : d' = _)]
    exact hv
  | c k =>
    rcases seeC_or h with ⟨c, e1, e3⟩ | h
    · cases c <;> cases e3
    · rcases seeN_kind h with ⟨xs, e⟩ | ⟨C, ns, xs, e⟩ | ⟨ks, xs, e⟩ <;> cases e
  | t rs => cases h
  | g L j => cases h
  | z ds =>
    cases h
    obtain ⟨a, vs, h1, h2, h3⟩ := hv
    exact ⟨a, vs, h1, h2.sq, h3⟩
theorem see_sq {μ : List Addr} {ce : List Ce} {r : Vl} {v : V} {ds : List Dt} (w : Wo K μ Hd H ce) (hv : Rv K μ Hd r v) (h : see ce r = some (.sq ds)) : ∃ a vs, v = .ref a ∧ SqL K H a vs ∧ RpA K Hd ds vs := by
  have e := see_dat h ⟨nofun, nofun, nofun, nofun⟩
  subst e
  obtain ⟨a, vs, h1, h2, h3⟩ := hv
  exact ⟨a, vs, h1, exs_l w.ex h2, h3⟩
theorem see_tup {μ : List Addr} {ce : List Ce} {r : Vl} {v : V} {ds : List Dt} (w : Wo K μ Hd H ce) (hv : Rv K μ Hd r v) (h : see ce r = some (.tup ds)) : ∃ a vs, v = .ref a ∧ SqT K H a vs ∧ RpA K Hd ds vs := by
  obtain ⟨a, vs, h1, h2, h3⟩ := see_flat hv h
  exact ⟨a, vs, h1, exs_t w.ex h2, h3⟩
/-- new data at a free place -/
theorem Wo.newD {μ : List Addr} {ce : List Ce} {p : Addr} {o : HO} (w : Wo K μ Hd H ce) (hp : H p = none) (ho : strip o = o := by rfl) : Wo K μ (upd Hd p o) (upd H p o) ce := by
  have gx : Ex Hd (upd Hd p o) := Ex.new (exs_back w.ex hp)
  refine ⟨fun a u e => ?_, w.len, fun k a ks ds h1 h2 => ?_, fun k c a h1 h2 hl => ?_, w.inj, w.tb, w.trs.same w.len gx fun x u hx hd _ _ => ?_⟩
  rotate_right
  · have nx : x ≠ p := ne_of_none hx hp
    exact ⟨by rw [upd_ne nx]; exact hx, by rw [upd_ne nx]; exact hd⟩
  rotate_left
  · obtain ⟨⟨od, kvs, g1, g2, g3⟩, uq⟩ := w.lk k a ks ds h1 h2
    exact ⟨⟨od, kvs, gx a _ g1, g2, RpA.ex gx _ _ g3⟩, uq⟩
  rotate_left
  · unfold upd at e ⊢
    by_cases h : a = p
    · rw [if_pos h] at e ⊢
      cases e
      rw [ho]
    · rw [if_neg h] at e ⊢
      exact w.ex a u e
  · obtain ⟨g1, u, g2, g3⟩ := w.at_ k c a h1 h2 hl
    have na : a ≠ p := ne_of_none g2 hp
    exact ⟨by rw [upd_ne na]; exact g1, u, by rw [upd_ne na]; exact g2, HoAt.ex gx g3⟩
theorem Rl.newD {μ : List Addr} {σ : L2.St} {E : En} {p : Addr} {o : HO} (R : Rl K μ Hd H σ E) (hp : H p = none) (ho : strip o = o := by rfl) : Gr μ Hd μ (upd Hd p o) ∧ Rl K μ (upd Hd p o) (upd H p o) σ E := by
  have g : Gr μ Hd μ (upd Hd p o) := ⟨fun _ _ h => h, Ex.new (exs_back R.wo.ex hp)⟩
  exact ⟨g, R.wo.newD hp ho, R.sl.gr g⟩
theorem get_append_one {α : Type} {l : List α} {x : α} {k : Nat} {y : α} (h : (l ++ [x])[k]? = some y) : l[k]? = some y ∨ (k = l.length ∧ y = x) := by
  rw [List.getElem?_append] at h
  by_cases hk : k < l.length
  · rw [if_pos hk] at h
    exact .inl h
  · rw [if_neg hk] at h
    by_cases h0 : k - l.length = 0
    · rw [h0] at h
      exact .inr ⟨by omega, (Option.some.inj h).symm⟩
    · rw [List.getElem?_eq_none (by simp; omega)] at h
      cases h
theorem pre_app {μ : List Addr} {p : Addr} : ∀ (k : Nat) (a : Addr), μ[k]? = some a → (μ ++ [p])[k]? = some a := fun k a h => by
  rw [List.getElem?_append_left (List.getElem?_eq_some_iff.mp h).1]
  exact h
/-- a new cell at a free place -/
theorem Wo.newC {μ : List Addr} {ce : List Ce} {p : Addr} {o : HO} {c : Ce} (w : Wo K μ Hd H ce) (hp : H p = none) (hc : HoAt K Hd c o) (hk : ∀ ks ds, c ≠ .lkd ks ds := by intro _ _ z; cases z) (ht : ∀ P q, c ≠ .tbl P q := by intro _ _ z; cases z) (hpl : c.plain = true := by rfl) : Wo K (μ ++ [p]) Hd (upd H p o) (ce ++ [c]) := by
  have hdp : Hd p = none := exs_back w.ex hp
  have g : Gr μ Hd (μ ++ [p]) Hd := ⟨pre_app, Ex.refl Hd⟩
  have keep : ∀ (k : Nat) (c : Ce) (a : Addr), ce[k]? = some c → μ[k]? = some a → c.live = true → a ≠ p := fun k c a h1 h2 hl => by
    obtain ⟨g1, u, g2, g3⟩ := w.at_ k c a h1 h2 hl
    exact ne_of_none g2 hp
  refine ⟨fun a u e => ?_, by rw [List.length_append, List.length_append, w.len]; rfl, fun k a ks ds h1 h2 => ?_, fun k e a h1 h2 hl => ?_, fun j k a e1 e2 h1 h2 h3 h4 l1 l2 => ?_, fun k a P q h1 h2 => ?_, w.trs.new w.len hpl hp fun x hx => upd_ne hx⟩
  rotate_right
  · rcases get_append_one h1 with h1 | ⟨h1, h3⟩
    · rcases get_append_one h2 with h2 | ⟨h2, _⟩
      · exact w.tb k a P q h1 h2
      · have := (List.getElem?_eq_some_iff.mp h1).1
        have := w.len
        omega
    · exact absurd h3.symm (ht P q)
  rotate_left
  · rcases get_append_one h1 with h1 | ⟨h1, h3⟩
    · rcases get_append_one h2 with h2 | ⟨h2, rfl⟩
      · obtain ⟨q1, uq⟩ := w.lk k a ks ds h1 h2
        refine ⟨q1, fun j ks' ds' h4 h5 => ?_⟩
        rcases get_append_one h4 with h4 | ⟨h4, h6⟩
        · rcases get_append_one h5 with h5 | ⟨h5, rfl⟩
          · exact uq j ks' ds' h4 h5
          · have := (List.getElem?_eq_some_iff.mp h4).1
            have := w.len
            omega
        · exact absurd h6.symm (hk ks' ds')
      · have := (List.getElem?_eq_some_iff.mp h1).1
        have := w.len
        omega
    · exact absurd h3.symm (hk ks ds)
  rotate_left
  rotate_left
  · have h := w.ex a u e
    rw [upd_ne (ne_of_none h hp)]
    exact h
  · rcases get_append_one h1 with h1 | ⟨h1, rfl⟩ <;> rcases get_append_one h2 with h2 | ⟨h2, rfl⟩
    · obtain ⟨g1, u, g2, g3⟩ := w.at_ k e a h1 h2 hl
      exact ⟨g1, u, by rw [upd_ne (ne_of_none g2 hp)]; exact g2, g3⟩
    · have := (List.getElem?_eq_some_iff.mp h1).1
      have := w.len
      omega
    · have := (List.getElem?_eq_some_iff.mp h2).1
      have := w.len
      omega
    · exact ⟨hdp, o, upd_same, hc⟩
  · have cs : ∀ {i : Nat} {e : Ce}, (μ ++ [p])[i]? = some a → (ce ++ [c])[i]? = some e → e.live = true → (μ[i]? = some a ∧ ce[i]? = some e ∧ a ≠ p) ∨ (i = ce.length ∧ a = p) := fun {i e} h1 h2 hl => by
      rcases get_append_one h1 with h1 | ⟨h1, q1⟩ <;> rcases get_append_one h2 with h2 | ⟨h2, q2⟩
      · exact .inl ⟨h1, h2, keep i e a h2 h1 hl⟩
      · have := (List.getElem?_eq_some_iff.mp h1).1
        have := w.len
        omega
      · have := (List.getElem?_eq_some_iff.mp h2).1
        have := w.len
        omega
      · exact .inr ⟨h2, q1⟩
    rcases cs h1 h3 l1 with ⟨i1, i2, i3⟩ | ⟨i1, i2⟩ <;> rcases cs h2 h4 l2 with ⟨j1, j2, j3⟩ | ⟨j1, j2⟩
    · exact w.inj j k a e1 e2 i1 j1 i2 j2 l1 l2
    · exact absurd j2 i3
    · exact absurd i2 j3
    · omega
theorem Rl.newX {μ : List Addr} {σ : L2.St} {E : En} {p : Addr} {c : Ce} {o : HO} (R : Rl K μ Hd H σ E) (hp : H p = none) (h : HoAt K Hd c o) (hk : ∀ ks ds, c ≠ .lkd ks ds := by intro _ _ z; cases z) (ht : ∀ P q, c ≠ .tbl P q := by intro _ _ z; cases z) (hpl : c.plain = true := by rfl) :
    Gr μ Hd (μ ++ [p]) Hd ∧ Rl K (μ ++ [p]) Hd (upd H p o) σ ⟨E.sl, E.ce ++ [c]⟩ ∧ Rv K (μ ++ [p]) Hd (.c E.ce.length) (.ref p) := by
  have g : Gr μ Hd (μ ++ [p]) Hd := ⟨pre_app, Ex.refl Hd⟩
  refine ⟨g, ⟨R.wo.newC hp h hk ht hpl, R.sl.gr g⟩, p, ?_, rfl⟩
  rw [← R.wo.len]
  simp
theorem Rl.newC {μ : List Addr} {σ : L2.St} {E : En} {p : Addr} {xs : List Dt} {vs : List V} (R : Rl K μ Hd H σ E) (hp : H p = none) (h : RpA K Hd xs vs) :
    Gr μ Hd (μ ++ [p]) Hd ∧ Rl K (μ ++ [p]) Hd (upd H p (.lst vs)) σ ⟨E.sl, E.ce ++ [.lst xs]⟩ ∧ Rv K (μ ++ [p]) Hd (.c E.ce.length) (.ref p) := R.newX hp ⟨vs, rfl, h⟩
/-- a cell changes -/
theorem Wo.set {μ : List Addr} {ce : List Ce} {k : Nat} {a : Addr} {c c' : Ce} {o : HO} (w : Wo K μ Hd H ce) (hk : ce[k]? = some c) (hl : c.live = true) (ha : μ[k]? = some a) (h : HoAt K Hd c' o) (hn : ∀ ks ds, c' ≠ .lkd ks ds := by intro _ _ z; cases z) (ht : ∀ P q, c' ≠ .tbl P q := by intro _ _ z; cases z) (htr : c.tree = false := by rfl) (hpl : c'.plain = true := by rfl) : Wo K μ Hd (upd H a o) (ce.set k c') := by
  obtain ⟨g1, u0, g2, g3⟩ := w.at_ k _ a hk ha hl
  refine ⟨fun b u e => ?_, by rw [List.length_set]; exact w.len, fun j b ks ds h1 h2 => ?_, fun j e b h1 h2 h3 => ?_, fun i j b e f h1 h2 h3 h4 l1 l2 => ?_, fun j b P q h1 h2 => ?_, w.trs.put w.len (Ex.refl Hd) hk hl htr hpl ha fun x u hx hd nx => ⟨by rw [upd_ne nx]; exact hx, hd⟩⟩
  rotate_right
  · rw [List.getElem?_set] at h1
    by_cases hj : k = j
    · subst hj
      rw [if_pos rfl, if_pos (List.getElem?_eq_some_iff.mp hk).1] at h1
      exact absurd (Option.some.inj h1) (ht P q)
    · rw [if_neg hj] at h1
      exact w.tb j b P q h1 h2
  · have nb : b ≠ a := fun z => by
      subst z
      rw [g1] at e
      cases e
    rw [upd_ne nb]
    exact w.ex b u e
  · rw [List.getElem?_set] at h1
    by_cases hj : k = j
    · subst hj
      rw [if_pos rfl, if_pos (List.getElem?_eq_some_iff.mp hk).1] at h1
      exact absurd (Option.some.inj h1) (hn ks ds)
    · rw [if_neg hj] at h1
      obtain ⟨q1, uq⟩ := w.lk j b ks ds h1 h2
      refine ⟨q1, fun i ks' ds' h4 h5 => ?_⟩
      rw [List.getElem?_set] at h4
      by_cases hi : k = i
      · subst hi
        rw [if_pos rfl, if_pos (List.getElem?_eq_some_iff.mp hk).1] at h4
        exact absurd (Option.some.inj h4) (hn ks' ds')
      · rw [if_neg hi] at h4
        exact uq i ks' ds' h4 h5
  · rw [List.getElem?_set] at h1
    by_cases hj : k = j
    · subst hj
      rw [if_pos rfl, if_pos (List.getElem?_eq_some_iff.mp hk).1] at h1
      cases h1
      rw [ha] at h2
      cases h2
      exact ⟨g1, o, upd_same, h⟩
    · rw [if_neg hj] at h1
      obtain ⟨q1, u, q2, q3⟩ := w.at_ j e b h1 h2 h3
      have nb : b ≠ a := fun z => hj (by
        subst z
        exact (w.inj j k b _ _ h2 ha h1 hk h3 hl).symm)
      exact ⟨q1, u, by rw [upd_ne nb]; exact q2, q3⟩
  · have live : ∀ (j : Nat) (e : Ce), (ce.set k c')[j]? = some e → e.live = true → ∃ e', ce[j]? = some e' ∧ e'.live = true := fun j e hj he => by
      rw [List.getElem?_set] at hj
      by_cases hkj : k = j
      · subst hkj
        exact ⟨_, hk, hl⟩
      · rw [if_neg hkj] at hj
        exact ⟨e, hj, he⟩
    obtain ⟨c1, d1, d2⟩ := live i e h3 l1
    obtain ⟨c2, d3, d4⟩ := live j f h4 l2
    exact w.inj i j b c1 c2 h1 h2 d1 d3 d2 d4
/-- a cell's list changes -/
theorem Rl.setX {μ : List Addr} {σ : L2.St} {E : En} {k : Nat} {a : Addr} {c c' : Ce} {o : HO} (R : Rl K μ Hd H σ E) (hk : E.ce[k]? = some c) (hl : c.live = true) (ha : μ[k]? = some a) (h : HoAt K Hd c' o) (hn : ∀ ks ds, c' ≠ .lkd ks ds := by intro _ _ z; cases z) (ht : ∀ P q, c' ≠ .tbl P q := by intro _ _ z; cases z) (htr : c.tree = false := by rfl) (hpl : c'.plain = true := by rfl) :
    Rl K μ Hd (upd H a o) σ ⟨E.sl, E.ce.set k c'⟩ := ⟨R.wo.set hk hl ha h hn ht htr hpl, R.sl⟩
theorem Rl.setC {μ : List Addr} {σ : L2.St} {E : En} {k : Nat} {a : Addr} {xs ys : List Dt} {vs : List V} (R : Rl K μ Hd H σ E) (hk : E.ce[k]? = some (.lst xs)) (ha : μ[k]? = some a) (h : RpA K Hd ys vs) :
    Rl K μ Hd (upd H a (.lst vs)) σ ⟨E.sl, E.ce.set k (.lst ys)⟩ := R.setX hk rfl ha ⟨vs, rfl, h⟩
/-! a cell becomes data -/
mutual
def frzV (k : Nat) (d : Dt) : Vl → Vl
  | .d e => .d e
  | .c j => if j = k then .d d else .c j
  | .t rs => .t (frzL k d rs)
  | .z ds => .z ds
  | .g L j => .g L j
def frzL (k : Nat) (d : Dt) : List Vl → List Vl
  | [] => []
  | r :: rs => frzV k d r :: frzL k d rs
end
mutual
theorem frzV_ok {μ : List Addr} {Hd Hd' : Hp} {k : Nat} {d : Dt} {a : Addr} (gx : Ex Hd Hd') (ha : μ[k]? = some a) (hp : Rp K Hd' d (.ref a)) : ∀ {r : Vl} {v : V}, Rv K μ Hd r v → Rv K μ Hd' (frzV k d r) v
  | .d e, v, h => Rp.ex gx e v h
  | .c j, v, h => by
    show Rv K μ Hd' (if j = k then .d d else .c j) v
    by_cases hj : j = k
    · rw [if_pos hj]
      subst hj
      obtain ⟨b, h3, rfl⟩ := h
      rw [ha] at h3
      cases h3
      exact hp
    · rw [if_neg hj]
      exact h
  | .t rs, v, ⟨b, vs, h1, h2, h3⟩ => ⟨b, vs, h1, gx b _ h2, frzL_ok gx ha hp h3⟩
  | .z ds, v, ⟨b, vs, h1, ⟨o, h2, h4⟩, h3⟩ => ⟨b, vs, h1, ⟨o, gx b _ h2, h4⟩, RpA.ex gx _ _ h3⟩
  | .g L j, v, ⟨f, c, b, oc, h1, h2, h3⟩ => ⟨f, c, b, oc, h1, h2, h3.ex gx⟩
theorem frzL_ok {μ : List Addr} {Hd Hd' : Hp} {k : Nat} {d : Dt} {a : Addr} (gx : Ex Hd Hd') (ha : μ[k]? = some a) (hp : Rp K Hd' d (.ref a)) : ∀ {rs : List Vl} {vs : List V}, RvL K μ Hd rs vs → RvL K μ Hd' (frzL k d rs) vs
  | [], vs, h => h
  | r :: rs, vs, ⟨x, q, h1, h2, h3⟩ => ⟨x, q, h1, frzV_ok gx ha hp h2, frzL_ok gx ha hp h3⟩
end
def frz (k : Nat) (d : Dt) (E : En) : En := ⟨E.sl.map (Option.map (frzV k d)), E.ce.set k .dead⟩
theorem Rl.frz {μ : List Addr} {σ : L2.St} {E : En} {k : Nat} {a : Addr} {c : Ce} {d : Dt} (R : Rl K μ Hd H σ E) (hk : E.ce[k]? = some c) (ha : μ[k]? = some a) (hd : dataC c = some d) :
    ∃ Hd', Gr μ Hd μ Hd' ∧ Rl K μ Hd' H σ (frz k d E) ∧ Rp K Hd' d (.ref a) := by
  have hl0 : c.live = true := by
    cases c <;> first | rfl | cases hd
  obtain ⟨g1, o, g2, g3⟩ := R.wo.at_ k _ a hk ha hl0
  obtain ⟨hl, hp⟩ := dataC_ok hd g3 g1
  have gx : Ex Hd (upd Hd a o) := Ex.new g1
  have g : Gr μ Hd μ (upd Hd a o) := ⟨fun _ _ h => h, gx⟩
  refine ⟨upd Hd a o, g, ⟨⟨fun b u e => ?_, by unfold Hk.frz; rw [List.length_set]; exact R.wo.len, fun j b ks ds h1 h2 => ?_, fun j c' b h1 h2 h3 => ?_, fun i j b e f h1 h2 h3 h4 l1 l2 => ?_, fun j b P q h1 h2 => ?_, R.wo.trs.put R.wo.len gx hk hl (by cases c <;> first | rfl | cases hd) rfl ha fun x u hx hd nx => ⟨hx, by rw [upd_ne nx]; exact hd⟩⟩, ?_⟩, hp⟩
  rotate_left 4
  · have h1 : (E.ce.set k .dead)[j]? = some (.tbl P q) := h1
    rw [List.getElem?_set] at h1
    by_cases hj : k = j
    · subst hj
      rw [if_pos rfl, if_pos (List.getElem?_eq_some_iff.mp hk).1] at h1
      cases h1
    · rw [if_neg hj] at h1
      exact R.wo.tb j b P q h1 h2
  rotate_left
  · by_cases hb : b = a
    · subst hb
      rw [upd_same] at e
      cases e
      rw [dataC_strip hd g3]
      exact g2
    · rw [upd_ne hb] at e
      exact R.wo.ex b u e
  · have h1 : (E.ce.set k .dead)[j]? = some (.lkd ks ds) := h1
    rw [List.getElem?_set] at h1
    by_cases hj : k = j
    · subst hj
      rw [if_pos rfl, if_pos (List.getElem?_eq_some_iff.mp hk).1] at h1
      cases h1
    · rw [if_neg hj] at h1
      obtain ⟨⟨od, kvs, q1, q2, q3⟩, uq⟩ := R.wo.lk j b ks ds h1 h2
      refine ⟨⟨od, kvs, gx b _ q1, q2, RpA.ex gx _ _ q3⟩, fun i ks' ds' h4 h5 => ?_⟩
      have h4 : (E.ce.set k .dead)[i]? = some (.lkd ks' ds') := h4
      rw [List.getElem?_set] at h4
      by_cases hi : k = i
      · subst hi
        rw [if_pos rfl, if_pos (List.getElem?_eq_some_iff.mp hk).1] at h4
        cases h4
      · rw [if_neg hi] at h4
        exact uq i ks' ds' h4 h5
  · have h1 : (E.ce.set k .dead)[j]? = some c' := h1
    rw [List.getElem?_set] at h1
    by_cases hj : k = j
    · subst hj
      rw [if_pos rfl, if_pos (List.getElem?_eq_some_iff.mp hk).1] at h1
      cases h1
      cases h3
    · rw [if_neg hj] at h1
      obtain ⟨q1, u, q2, q3⟩ := R.wo.at_ j c' b h1 h2 h3
      have nb : b ≠ a := fun z => hj (by
        subst z
        exact (R.wo.inj j k b _ _ h2 ha h1 hk h3 hl).symm)
      exact ⟨by rw [upd_ne nb]; exact q1, u, q2, HoAt.ex gx q3⟩
  · have live : ∀ (j : Nat) (c : Ce), (E.ce.set k .dead)[j]? = some c → c.live = true → E.ce[j]? = some c := fun j c hj hc => by
      rw [List.getElem?_set] at hj
      by_cases hkj : k = j
      · subst hkj
        rw [if_pos rfl, if_pos (List.getElem?_eq_some_iff.mp hk).1] at hj
        cases hj
        cases hc
      · rw [if_neg hkj] at hj
        exact hj
    exact R.wo.inj i j b e f h1 h2 (live i e h3 l1) (live j f h4 l2) l1 l2
  · refine ⟨by show σ.length = (E.sl.map _).length; rw [List.length_map]; exact R.sl.1, fun i r e => ?_⟩
    have e : (E.sl.map (Option.map (frzV k d)))[i]? = some (some r) := e
    rw [List.getElem?_map] at e
    cases q : E.sl[i]? with
    | none =>
      rw [q] at e
      cases e
    | some o' =>
      rw [q] at e
      cases o' with
      | none => cases e
      | some r0 =>
        have er : frzV k d r0 = r := Option.some.inj (Option.some.inj e)
        obtain ⟨v, h1, h2⟩ := R.sl.2 i r0 q
        exact ⟨v, h1, er ▸ frzV_ok gx ha hp h2⟩
end
end Hk
/-! Hk2: the judgements, and the rules of expressions, tests, statements, loops. -/
namespace Hk
open PySem PySem.Spec PyProof.Rows L2 Evl

/-- what a piece does to the state: nothing where it fails -/
abbrev M (α : Type) := En → Option (α × En)
def bindM {α β : Type} (m : M α) (f : α → M β) : M β := fun E => match m E with
  | some (a, E') => f a E'
  | none => none
def retM {α : Type} (a : α) : M α := fun E => some (a, E)
def failM {α : Type} : M α := fun _ => none
theorem bindM_some {α β : Type} {m : M α} {f : α → M β} {E E2 : En} {b : β} (h : bindM m f E = some (b, E2)) : ∃ a E1, m E = some (a, E1) ∧ f a E1 = some (b, E2) := by
  unfold bindM at h
  split at h
  · rename_i a E' e
    exact ⟨a, E', e, h⟩
  · cases h
inductive Rs where
  | nx (E : En) | rt (r : Vl) (E : En) | bk (E : En) | ct (E : En)

section
variable (K : PySem.W.Frag)
def EM (te : TE) (m : M Vl) : Prop := ∀ {μ : List Addr} {Hd H : Hp} {σ : L2.St} {E : En} {r : Vl} {E' : En}, Rl K μ Hd H σ E → m E = some (r, E') → ∀ Q : VK,
  (∀ μ' Hd' H' v, Gr μ Hd μ' Hd' → Rl K μ' Hd' H' σ E' → Rv K μ' Hd' r v → Q v H') → te σ H Q
def TM (tt : TT) (m : M Bool) : Prop := ∀ {μ : List Addr} {Hd H : Hp} {σ : L2.St} {E : En} {b : Bool} {E' : En}, Rl K μ Hd H σ E → m E = some (b, E') → ∀ Q : Bool → Hp → Prop,
  (∀ μ' Hd' H', Gr μ Hd μ' Hd' → Rl K μ' Hd' H' σ E' → Q b H') → tt σ H Q
def AM (ta : TA) (m : M (List Vl)) : Prop := ∀ {μ : List Addr} {Hd H : Hp} {σ : L2.St} {E : En} {rs : List Vl} {E' : En}, Rl K μ Hd H σ E → m E = some (rs, E') → ∀ Q : List V → Hp → Prop,
  (∀ μ' Hd' H' vs, Gr μ Hd μ' Hd' → Rl K μ' Hd' H' σ E' → RvA K μ' Hd' rs vs → Q vs H') → ta σ H Q
/-- an operation on values -/
def OM (r : R2) (f : Vl → Vl → M Vl) : Prop := ∀ {μ : List Addr} {Hd H : Hp} {σ : L2.St} {E : En} {x y : Vl} {vx vy : V} {z : Vl} {E' : En}, Rl K μ Hd H σ E → Rv K μ Hd x vx → Rv K μ Hd y vy → f x y E = some (z, E') → ∀ Q : VK,
  (∀ μ' Hd' H' v, Gr μ Hd μ' Hd' → Rl K μ' Hd' H' σ E' → Rv K μ' Hd' z v → Q v H') → r vx vy H Q
def CM (r : List V → Hp → VK → Prop) (f : List Vl → M Vl) : Prop := ∀ {μ : List Addr} {Hd H : Hp} {σ : L2.St} {E : En} {xs : List Vl} {vs : List V} {z : Vl} {E' : En}, Rl K μ Hd H σ E → RvA K μ Hd xs vs → f xs E = some (z, E') → ∀ Q : VK,
  (∀ μ' Hd' H' v, Gr μ Hd μ' Hd' → Rl K μ' Hd' H' σ E' → Rv K μ' Hd' z v → Q v H') → r vs H Q
/-- a method of a built-in type -/
def MM (T : String) (r : V → List V → Hp → VK → Prop) (f : Vl → List Vl → M Vl) : Prop := ∀ {μ : List Addr} {Hd H : Hp} {σ : L2.St} {E : En} {x : Vl} {vx : V} {xs : List Vl} {vs : List V} {z : Vl} {E' : En}, Rl K μ Hd H σ E → Rv K μ Hd x vx → RvA K μ Hd xs vs → f x xs E = some (z, E') → ∀ Q : VK,
  (∀ μ' Hd' H' v, Gr μ Hd μ' Hd' → Rl K μ' Hd' H' σ E' → Rv K μ' Hd' z v → Q v H') → r vx vs H Q
def Dn (μ : List Addr) (Hd : Hp) (D : Ends) : Rs → Prop
  | .nx E' => ∀ μ' Hd' H' σ', Gr μ Hd μ' Hd' → Rl K μ' Hd' H' σ' E' → D.nx σ' H'
  | .rt r E' => ∀ μ' Hd' H' σ' v, Gr μ Hd μ' Hd' → Rl K μ' Hd' H' σ' E' → Rv K μ' Hd' r v → D.rt v H'
  | .bk E' => ∀ μ' Hd' H' σ', Gr μ Hd μ' Hd' → Rl K μ' Hd' H' σ' E' → D.bk σ' H'
  | .ct E' => ∀ μ' Hd' H' σ', Gr μ Hd μ' Hd' → Rl K μ' Hd' H' σ' E' → D.ct σ' H'
def SM (ts : TS) (m : En → Option Rs) : Prop := ∀ {μ : List Addr} {Hd H : Hp} {σ : L2.St} {E : En} {R : Rs}, Rl K μ Hd H σ E → m E = some R → ∀ D : Ends, Dn K μ Hd D R → ts D σ H
def GM (g : TG) (f : Vl → En → Option En) : Prop := ∀ {μ : List Addr} {Hd H : Hp} {σ : L2.St} {E E' : En} {r : Vl} {v : V}, Rl K μ Hd H σ E → Rv K μ Hd r v → f r E = some E' → ∀ Q : L2.St → Hp → Prop,
  (∀ μ' Hd' H' σ', Gr μ Hd μ' Hd' → Rl K μ' Hd' H' σ' E' → Q σ' H') → g v σ H Q
end
section
variable {K : PySem.W.Frag} {μ μ' : List Addr} {Hd Hd' H : Hp}
theorem Dn.gr {D : Ends} (g : Gr μ Hd μ' Hd') : ∀ {R : Rs}, Dn K μ Hd D R → Dn K μ' Hd' D R
  | .nx _, h => fun m1 h1 H1 s1 g1 => h m1 h1 H1 s1 (g.trans g1)
  | .rt _ _, h => fun m1 h1 H1 s1 v g1 => h m1 h1 H1 s1 v (g.trans g1)
  | .bk _, h => fun m1 h1 H1 s1 g1 => h m1 h1 H1 s1 (g.trans g1)
  | .ct _, h => fun m1 h1 H1 s1 g1 => h m1 h1 H1 s1 (g.trans g1)
end

/-- a piece of syntax, its reading, what it does -/
structure Ex_ (X : Cx) (e : Expr) (te : TE) (m : M Vl) : Prop where
  pe : PE X e te
  em : EM X.K te m
structure Tx (X : Cx) (e : Expr) (tt : TT) (m : M Bool) : Prop where
  pt : PT X e tt
  tm : TM X.K tt m
structure Wx (X : Cx) (e : Expr) (tt : TT) (m : M Bool) : Prop where
  pw : PW X e tt
  tm : TM X.K tt m
structure Ax (X : Cx) (es : List Expr) (ta : TA) (m : M (List Vl)) : Prop where
  pa : PA X es ta
  am : AM X.K ta m
structure Sx (X : Cx) (st : Stmt) (ts : TS) (m : En → Option Rs) : Prop where
  ps : PS X st ts
  sm : SM X.K ts m
structure Bx (X : Cx) (st : List Stmt) (ts : TS) (m : En → Option Rs) : Prop where
  ps : PSs X st ts
  sm : SM X.K ts m
structure Gx (X : Cx) (tg : Expr) (g : TG) (f : Vl → En → Option En) : Prop where
  pg : PG X tg g
  gm : GM X.K g f

section
variable {X : Cx} {a b c e : Expr} {ta tb tc te : TE} {ma mb mc m : M Vl} {pos : Pos}

/-! ### names, constants -/
def vM (i : Nat) : M Vl := fun E => match E.sl[i]? with
  | some (some r) => some (r, E)
  | _ => none
theorem em_var {K : PySem.W.Frag} (i : Nat) : EM K (tVar i) (vM i) := fun {μ Hd H σ E r E'} R h Q q => by
  unfold vM at h
  split at h
  · rename_i r0 e
    cases h
    obtain ⟨v, h1, h2⟩ := R.sl.2 i _ e
    exact ⟨v, h1, q μ Hd H v (Gr.refl μ Hd) R h2⟩
  · cases h
theorem xv (i : Nat) {x : Str} (hN : X.N[i]? = some x := by rfl) (hv : Vis X.env.scope x := by first | exact Or.inl rfl | exact Or.inr (Or.inl rfl) | exact Or.inr (Or.inr rfl)) (hd : (x == ("__debug__" : Str)) = false := by decide)
    (hcd : (x == ("__classdict__" : Str)) = false := by decide) : Ex_ X (.Name x pos) (tVar i) (vM i) := ⟨pe_var hN hv hd hcd, em_var i⟩
theorem em_c {K : PySem.W.Frag} {v : V} {d : Dt} (h : ∀ Hd, Rp K Hd d v) : EM K (tC v) (retM (.d d)) := fun {μ Hd H σ E r E'} R e Q q => by
  cases e
  exact q μ Hd H v (Gr.refl μ Hd) R (h Hd)
theorem xint {i : Int} {j : Nat} : Ex_ X (.Constant (.int i) j pos) (tC (.int i)) (retM (.d (.int i))) := ⟨pe_int, em_c (d := .int i) fun _ => (rfl : V.int i = .int i)⟩
theorem xbl {b : Bool} {j : Nat} : Ex_ X (.Constant (.bool b) j pos) (tC (.bl b)) (retM (.d (.bl b))) := ⟨pe_bl, em_c (d := .bl b) fun _ => (rfl : V.bl b = .bl b)⟩
theorem xnon {j : Nat} : Ex_ X (.Constant .none j pos) (tC .non) (retM (.d .non)) := ⟨pe_non, em_c (d := .non) fun _ => (rfl : V.non = .non)⟩
theorem xstr {x : Str} {j : Nat} : Ex_ X (.Constant (.str x) j pos) (tC (.str x)) (retM (.d (.str x))) := ⟨pe_str, em_c (d := .str x) fun _ => (rfl : V.str x = .str x)⟩

/-! ### operations -/
theorem em_op {K : PySem.W.Frag} {r : R2} {f : Vl → Vl → M Vl} (hf : OM K r f) (ha : EM K ta ma) (hb : EM K tb mb) : EM K (tOp r ta tb) (bindM ma fun x => bindM mb (f x)) := fun {μ Hd H σ E z E'} R h Q q => by
  obtain ⟨x, E1, h1, h⟩ := bindM_some h
  obtain ⟨y, E2, h2, h3⟩ := bindM_some h
  refine ha R h1 _ fun μ1 Hd1 H1 vx g1 R1 r1 => ?_
  refine hb R1 h2 _ fun μ2 Hd2 H2 vy g2 R2 r2 => ?_
  exact hf R2 (Rv.gr g2 r1) r2 h3 Q fun μ3 Hd3 H3 v g3 R3 r3 => q μ3 Hd3 H3 v ((g1.trans g2).trans g3) R3 r3
theorem xop {op : Operator} {r : R2} {f : Vl → Vl → M Vl} (ho : OpR X (binaryOp op) r) (hf : OM X.K r f) (ha : Ex_ X a ta ma) (hb : Ex_ X b tb mb) :
    Ex_ X (.BinOp a op b pos) (tOp r ta tb) (bindM ma fun x => bindM mb (f x)) := ⟨pe_op ho ha.pe hb.pe, em_op hf ha.em hb.em⟩
theorem xcmp {op : CmpOp} {r : R2} {f : Vl → Vl → M Vl} (ho : OpR X (compareOp op) r) (hf : OM X.K r f) (ha : Ex_ X a ta ma) (hb : Ex_ X b tb mb) (hm : behindInMarks op b = false) :
    Ex_ X (.Compare a [op] [b] pos) (tOp r ta tb) (bindM ma fun x => bindM mb (f x)) := ⟨pe_cmpR ho ha.pe hb.pe hm, em_op hf ha.em hb.em⟩
/-- a value that is a truth -/
def boolM : Vl → M Bool
  | .d (.bl b) => retM b
  | _ => failM
theorem boolM_some {r : Vl} {E E' : En} {k : Bool} (h : boolM r E = some (k, E')) : r = .d (.bl k) ∧ E' = E := by
  unfold boolM at h
  split at h
  · cases h
    exact ⟨rfl, rfl⟩
  · cases h
theorem tm_test {K : PySem.W.Frag} {te : TE} {m : M Vl} (h : EM K te m) : TM K (tTest te) (bindM m boolM) := fun {μ Hd H σ E b E'} R e Q q => by
  obtain ⟨r, E1, h1, h2⟩ := bindM_some e
  obtain ⟨rfl, rfl⟩ := boolM_some h2
  exact h R h1 _ fun μ1 Hd1 H1 v g1 R1 r1 => ⟨b, r1, q μ1 Hd1 H1 g1 R1⟩
theorem tcmp {op : CmpOp} {r : R2} {f : Vl → Vl → M Vl} (ho : OpR X (compareOp op) r) (hf : OM X.K r f) (ha : Ex_ X a ta ma) (hb : Ex_ X b tb mb) (hm : behindInMarks op b = false) :
    Tx X (.Compare a [op] [b] pos) (tTest (tOp r ta tb)) (bindM (bindM ma fun x => bindM mb (f x)) boolM) := ⟨pt_cmpR ho ha.pe hb.pe hm, tm_test (em_op hf ha.em hb.em)⟩
/-- a value's truth -/
def truD : Dt → Option Bool
  | .non => some false
  | .bl b => some b
  | .int i => some (i != 0)
  | .str s => if s.length ≤ sizeLine then some ((s.length : Int) != 0) else none
  | .lst xs => some (!xs.isEmpty)
  | .tup xs => some (!xs.isEmpty)
  | _ => none
def truM (r : Vl) : M Bool := fun E => match see E.ce r with
  | some d => (truD d).map fun b => (b, E)
  | none => none
theorem RpA.emp {K : PySem.W.Frag} {H : Hp} {ds : List Dt} {vs : List V} (h : RpA K H ds vs) : vs.isEmpty = ds.isEmpty := by
  have e := h.len
  cases ds <;> cases vs <;> first | rfl | (simp at e)
theorem tru_of {K : PySem.W.Frag} {H : Hp} {d : Dt} {v : V} {b : Bool} (hr : Rp K H d v) (h : truD d = some b) : TruV K v H b := by
  unfold truD at h
  split at h
  · cases h
    cases (show v = .non from hr)
    exact (rfl : false = false)
  · cases h
    cases (show v = .bl _ from hr)
    exact (rfl : b = b)
  · cases h
    cases (show v = .int _ from hr)
    exact (rfl : _ = _)
  · cases (show v = .str _ from hr)
    split at h
    · rename_i hz
      cases h
      exact ⟨hz, rfl⟩
    · cases h
  · cases h
    obtain ⟨a, xs, rfl, h2, h3⟩ := hr
    exact .inl ⟨xs, sq_of h2, by rw [h3.emp]⟩
  · cases h
    obtain ⟨a, xs, rfl, h2, h3⟩ := hr
    exact .inr (.inl ⟨xs, h2, by rw [h3.emp]⟩)
  · cases h
theorem ttru (ha : Ex_ X a ta ma) (he : ∀ whole, isTrue a X.env whole = (do let v ← whole; standAt a.pos; holding [v] (truthy v)) := by intro _; rfl) :
    Tx X a (fun σ H Q => ta σ H fun x H' => ∃ k, TruV X.K x H' k ∧ Q k H') (bindM ma truM) := ⟨pt_truth ha.pe he, fun {μ Hd H σ E b E'} R e Q q => by
  obtain ⟨r, E1, h1, h2⟩ := bindM_some e
  unfold truM at h2
  split at h2
  · rename_i d hd
    cases ht : truD d with
    | none =>
      rw [ht] at h2
      cases h2
    | some k =>
      rw [ht] at h2
      cases h2
      exact ha.em R h1 _ fun μ1 Hd1 H1 v g1 R1 r1 => ⟨b, tru_of (see_ok R1.wo r1 hd) ht, q μ1 Hd1 H1 g1 R1⟩
  · cases h2⟩
/-! ### and, or, not, a chain, a choice -/
variable {tt uu : TT} {mt mu : M Bool} {rest : List Expr}
def andM (m n : M Bool) : M Bool := bindM m fun b => if b = true then n else retM false
def orM (m n : M Bool) : M Bool := bindM m fun b => if b = true then retM true else n
def notM (m : M Bool) : M Bool := bindM m fun b => retM (!b)
theorem tm_and {K : PySem.W.Frag} (h1 : TM K tt mt) (h2 : TM K uu mu) : TM K (tAnd tt uu) (andM mt mu) := fun {μ Hd H σ E b E'} R e Q q => by
  obtain ⟨k, E1, e1, e2⟩ := bindM_some e
  refine h1 R e1 _ fun μ1 Hd1 H1 g1 R1 => ?_
  cases k with
  | true => exact h2 R1 e2 Q fun μ2 Hd2 H2 g2 R2 => q μ2 Hd2 H2 (g1.trans g2) R2
  | false =>
    cases e2
    exact q μ1 Hd1 H1 g1 R1
theorem tm_or {K : PySem.W.Frag} (h1 : TM K tt mt) (h2 : TM K uu mu) : TM K (tOr tt uu) (orM mt mu) := fun {μ Hd H σ E b E'} R e Q q => by
  obtain ⟨k, E1, e1, e2⟩ := bindM_some e
  refine h1 R e1 _ fun μ1 Hd1 H1 g1 R1 => ?_
  cases k with
  | false => exact h2 R1 e2 Q fun μ2 Hd2 H2 g2 R2 => q μ2 Hd2 H2 (g1.trans g2) R2
  | true =>
    cases e2
    exact q μ1 Hd1 H1 g1 R1
theorem tm_not {K : PySem.W.Frag} (h1 : TM K tt mt) : TM K (tNot tt) (notM mt) := fun {μ Hd H σ E b E'} R e Q q => by
  obtain ⟨k, E1, e1, e2⟩ := bindM_some e
  cases e2
  exact h1 R e1 _ fun μ1 Hd1 H1 g1 R1 => q μ1 Hd1 H1 g1 R1
theorem wand1 (h : Tx X a tt mt) : Wx X (.BoolOp .And [a] pos) tt mt := ⟨pw_and1 h.pt, h.tm⟩
theorem wor1 (h : Tx X a tt mt) : Wx X (.BoolOp .Or [a] pos) tt mt := ⟨pw_or1 h.pt, h.tm⟩
theorem wand (h : Tx X a tt mt) (hr : Wx X (.BoolOp .And (b :: rest) pos) uu mu) : Wx X (.BoolOp .And (a :: b :: rest) pos) (tAnd tt uu) (andM mt mu) := ⟨pw_and h.pt hr.pw, tm_and h.tm hr.tm⟩
theorem wor (h : Tx X a tt mt) (hr : Wx X (.BoolOp .Or (b :: rest) pos) uu mu) : Wx X (.BoolOp .Or (a :: b :: rest) pos) (tOr tt uu) (orM mt mu) := ⟨pw_or h.pt hr.pw, tm_or h.tm hr.tm⟩
theorem tbool (h : Wx X e tt mt) : Tx X e tt mt := ⟨h.pw.pt, h.tm⟩
theorem tnot (h : Tx X a tt mt) : Tx X (.UnaryOp .Not a pos) (tNot tt) (notM mt) := ⟨pt_not h.pt, tm_not h.tm⟩
/-- as values that are truths -/
def blM (b : Bool) : M Vl := retM (.d (.bl b))
def andV (m n : M Vl) : M Vl := bindM (bindM m boolM) fun b => if b = true then n else blM false
def orV (m n : M Vl) : M Vl := bindM (bindM m boolM) fun b => if b = true then blM true else n
theorem em_bool {K : PySem.W.Frag} {te : TE} {m : M Vl} (h : EM K te m) {μ : List Addr} {Hd H : Hp} {σ : L2.St} {E E' : En} {k : Bool} (R : Rl K μ Hd H σ E) (e : bindM m boolM E = some (k, E')) {Q : VK}
    (q : ∀ μ' Hd' H', Gr μ Hd μ' Hd' → Rl K μ' Hd' H' σ E' → Q (.bl k) H') : te σ H Q := by
  obtain ⟨r, E1, e1, e2⟩ := bindM_some e
  obtain ⟨rfl, rfl⟩ := boolM_some e2
  exact h R e1 _ fun μ1 Hd1 H1 v g1 R1 r1 => by
    cases (show v = .bl k from r1)
    exact q μ1 Hd1 H1 g1 R1
theorem xand (ha : Ex_ X a ta ma) (hb : Ex_ X (.BoolOp .And (b :: rest) pos) tb mb) : Ex_ X (.BoolOp .And (a :: b :: rest) pos) (tAndV ta tb) (andV ma mb) := ⟨pe_and ha.pe hb.pe, fun {μ Hd H σ E r E'} R e Q q => by
  obtain ⟨k, E1, e1, e2⟩ := bindM_some e
  refine em_bool ha.em R e1 fun μ1 Hd1 H1 g1 R1 => ⟨k, rfl, ?_⟩
  cases k with
  | true => exact hb.em R1 e2 Q fun μ2 Hd2 H2 v g2 R2 => q μ2 Hd2 H2 v (g1.trans g2) R2
  | false =>
    cases e2
    exact q μ1 Hd1 H1 _ g1 R1 rfl⟩
theorem xor_ (ha : Ex_ X a ta ma) (hb : Ex_ X (.BoolOp .Or (b :: rest) pos) tb mb) : Ex_ X (.BoolOp .Or (a :: b :: rest) pos) (tOrV ta tb) (orV ma mb) := ⟨pe_or ha.pe hb.pe, fun {μ Hd H σ E r E'} R e Q q => by
  obtain ⟨k, E1, e1, e2⟩ := bindM_some e
  refine em_bool ha.em R e1 fun μ1 Hd1 H1 g1 R1 => ⟨k, rfl, ?_⟩
  cases k with
  | false => exact hb.em R1 e2 Q fun μ2 Hd2 H2 v g2 R2 => q μ2 Hd2 H2 v (g1.trans g2) R2
  | true =>
    cases e2
    exact q μ1 Hd1 H1 _ g1 R1 rfl⟩
theorem xone {op : BoolOp} (ha : Ex_ X a ta ma) : Ex_ X (.BoolOp op [a] pos) ta ma := ⟨pe_one ha.pe, ha.em⟩
def ifM {α : Type} (t : M Bool) (m n : M α) : M α := bindM t fun b => if b = true then m else n
theorem xif (hc : Tx X c tt mt) (ha : Ex_ X a ta ma) (hb : Ex_ X b tb mb) : Ex_ X (.IfExp c a b pos) (tIf tt ta tb) (ifM mt ma mb) := ⟨pe_ifExp hc.pt ha.pe hb.pe, fun {μ Hd H σ E r E'} R e Q q => by
  obtain ⟨k, E1, e1, e2⟩ := bindM_some e
  refine hc.tm R e1 _ fun μ1 Hd1 H1 g1 R1 => ?_
  cases k with
  | true => exact ha.em R1 e2 Q fun μ2 Hd2 H2 v g2 R2 => q μ2 Hd2 H2 v (g1.trans g2) R2
  | false => exact hb.em R1 e2 Q fun μ2 Hd2 H2 v g2 R2 => q μ2 Hd2 H2 v (g1.trans g2) R2⟩
def chainV (f g : Vl → Vl → M Vl) (ma mb mc : M Vl) : M Vl := bindM ma fun x => bindM mb fun y => bindM (bindM (f x y) boolM) fun k => if k = true then bindM mc (g y) else blM false
theorem em_chain {K : PySem.W.Frag} {r r' : R2} {f g : Vl → Vl → M Vl} (hf : OM K r f) (hg : OM K r' g) (hgb : ∀ x y E z E', g x y E = some (z, E') → ∃ k, z = .d (.bl k)) (ha : EM K ta ma) (hb : EM K tb mb) (hc : EM K tc mc) : EM K (tChain r r' ta tb tc) (chainV f g ma mb mc) := fun {μ Hd H σ E z E'} R e Q q => by
  obtain ⟨x, E1, e1, e⟩ := bindM_some e
  obtain ⟨y, E2, e2, e⟩ := bindM_some e
  obtain ⟨k, E3, e3, e⟩ := bindM_some e
  obtain ⟨w, E4, e4, e5⟩ := bindM_some e3
  obtain ⟨rfl, rfl⟩ := boolM_some e5
  refine ha R e1 _ fun μ1 Hd1 H1 vx g1 R1 r1 => ?_
  refine hb R1 e2 _ fun μ2 Hd2 H2 vy g2 R2 r2 => ?_
  refine hf R2 (Rv.gr g2 r1) r2 e4 _ fun μ3 Hd3 H3 vz g3 R3 r3 => ?_
  refine ⟨k, r3, ?_⟩
  cases k with
  | true =>
    obtain ⟨u, E5, e6, e7⟩ := bindM_some e
    show tc σ H3 _
    refine hc R3 e6 _ fun μ4 Hd4 H4 vu g4 R4 r4 => ?_
    exact hg R4 (Rv.gr g4 (Rv.gr g3 r2)) r4 e7 _ fun μ5 Hd5 H5 v g5 R5 r5 => q μ5 Hd5 H5 v ((((g1.trans g2).trans g3).trans g4).trans g5) R5 r5
  | false =>
    cases e
    exact q μ3 Hd3 H3 _ ((g1.trans g2).trans g3) R3 rfl
theorem tchain {op op' : CmpOp} {r r' : R2} {f g : Vl → Vl → M Vl} (ho : OpR X (compareOp op) r) (ho' : OpR X (compareOp op') r') (hf : OM X.K r f) (hg : OM X.K r' g) (hgb : ∀ x y E z E', g x y E = some (z, E') → ∃ k, z = .d (.bl k)) (ha : Ex_ X a ta ma) (hb : Ex_ X b tb mb) (hc : Ex_ X c tc mc)
    (hm : lastMarks [op, op'] [b, c] = false := by with_unfolding_all rfl) : Tx X (.Compare a [op, op'] [b, c] pos) (tTest (tChain r r' ta tb tc)) (bindM (chainV f g ma mb mc) boolM) := ⟨pt_chain ho ho' ha.pe hb.pe hc.pe hm, tm_test (em_chain hf hg hgb ha.em hb.em hc.em)⟩

/-! ### argument lists, displays -/
variable {es : List Expr} {tes : TA} {mes : M (List Vl)}
def consM (m : M Vl) (ms : M (List Vl)) : M (List Vl) := bindM m fun x => bindM ms fun xs => retM (x :: xs)
theorem anil : Ax X [] tNil (retM []) := ⟨pa_nil, fun {μ Hd H σ E r E'} R e Q q => by
  cases e
  exact q μ Hd H [] (Gr.refl μ Hd) R .nil⟩
theorem acons (ha : Ex_ X e te m) (hr : Ax X es tes mes) (hs : starEach (e :: es) X.env = (false, eval e X.env) :: starEach es X.env := by rfl) : Ax X (e :: es) (tCons te tes) (consM m mes) := ⟨pa_cons ha.pe hr.pa hs, fun {μ Hd H σ E r E'} R e Q q => by
  obtain ⟨x, E1, e1, e⟩ := bindM_some e
  obtain ⟨xs, E2, e2, e⟩ := bindM_some e
  cases e
  refine ha.em R e1 _ fun μ1 Hd1 H1 v g1 R1 r1 => ?_
  exact hr.am R1 e2 _ fun μ2 Hd2 H2 vs g2 R2 r2 => q μ2 Hd2 H2 _ (g1.trans g2) R2 (.cons (Rv.gr g2 r1) r2)⟩
/-- a value as data: a cell's list is data from now on -/
def fzM : Vl → M Dt
  | .d d => retM d
  | .c k => fun E => match (E.ce[k]?).bind dataC with
    | some d => some (d, frz k d E)
    | none => none
  | .t _ => failM
  | .z ds => retM (.tup ds)
  | .g _ _ => failM
def fzA : List Vl → M (List Dt)
  | [] => retM []
  | r :: rs => bindM (fzM r) fun d => bindM (fzA rs) fun ds => retM (d :: ds)
theorem fzM_ok {K : PySem.W.Frag} {μ : List Addr} {Hd H : Hp} {σ : L2.St} {E E' : En} {r : Vl} {v : V} {d : Dt} (R : Rl K μ Hd H σ E) (hv : Rv K μ Hd r v) (h : fzM r E = some (d, E')) : ∃ Hd', Gr μ Hd μ Hd' ∧ Rl K μ Hd' H σ E' ∧ Rp K Hd' d v := by
  cases r with
  | d d' =>
    cases h
    exact ⟨Hd, Gr.refl μ Hd, R, hv⟩
  | c k =>
    have h : (match (E.ce[k]?).bind dataC with
    | some d => some (d, frz k d E)
    | none => none) = some (d, E') := h
    cases q : E.ce[k]? with
    | none =>
      rw [q] at h
      cases h
    | some c =>
      rw [q] at h
      have h : (match dataC c with
        | some d => some (d, frz k d E)
        | none => none) = some (d, E') := h
      cases q2 : dataC c with
      | none =>
        rw [q2] at h
        cases h
      | some d2 =>
        rw [q2] at h
        cases h
        obtain ⟨a, h1, rfl⟩ := hv
        exact R.frz q h1 q2
  | t rs => cases h
  | g L j => cases h
  | z zs =>
    cases h
    exact ⟨Hd, Gr.refl μ Hd, R, see_flat (ce := E.ce) hv rfl⟩
theorem fzA_ok {K : PySem.W.Frag} {μ : List Addr} {H : Hp} {σ : L2.St} : ∀ {rs : List Vl} {vs : List V} {ds : List Dt} {Hd : Hp} {E E' : En}, Rl K μ Hd H σ E → RvA K μ Hd rs vs → fzA rs E = some (ds, E') → ∃ Hd', Gr μ Hd μ Hd' ∧ Rl K μ Hd' H σ E' ∧ RpA K Hd' ds vs
  | [], _, _, Hd, E, E', R, .nil, h => by
    cases h
    exact ⟨Hd, Gr.refl μ Hd, R, rfl⟩
  | r :: rs, _, _, Hd, E, E', R, .cons h1 h2, h => by
    obtain ⟨d, E1, e1, h⟩ := bindM_some h
    obtain ⟨ds, E2, e2, h⟩ := bindM_some h
    cases h
    obtain ⟨H1, g1, R1, p1⟩ := fzM_ok R h1 e1
    obtain ⟨H2, g2, R2, p2⟩ := fzA_ok R1 (RvA.gr g1 h2) e2
    exact ⟨H2, g1.trans g2, R2, _, _, rfl, Rp.ex g2.ex _ _ p1, p2⟩
/-- a new list, a new tuple -/
def newL (xs : List Dt) : M Vl := fun E => some (.c E.ce.length, ⟨E.sl, E.ce ++ [.lst xs]⟩)
def tupM (m : M (List Vl)) : M Vl := bindM m fun rs => if rs.length ≤ 100000 then bindM (fzA rs) fun ds => retM (.d (.tup ds)) else failM
def lstM (m : M (List Vl)) : M Vl := bindM m fun rs => if rs.length ≤ 100000 then bindM (fzA rs) newL else failM
theorem newL_ok {K : PySem.W.Frag} {μ : List Addr} {Hd H : Hp} {σ : L2.St} {E E' : En} {xs : List Dt} {vs : List V} {z : Vl} {p : Addr} (R : Rl K μ Hd H σ E) (h : RpA K Hd xs vs) (e : newL xs E = some (z, E')) (hp : H p = none) :
    Gr μ Hd (μ ++ [p]) Hd ∧ Rl K (μ ++ [p]) Hd (upd H p (.lst vs)) σ E' ∧ Rv K (μ ++ [p]) Hd z (.ref p) := by
  cases e
  exact R.newC hp h
theorem tup_ok {K : PySem.W.Frag} {μ : List Addr} {Hd H : Hp} {σ : L2.St} {E : En} {ds : List Dt} {vs : List V} {p : Addr} (R : Rl K μ Hd H σ E) (h : RpA K Hd ds vs) (hp : H p = none) :
    Gr μ Hd μ (upd Hd p (.tup vs)) ∧ Rl K μ (upd Hd p (.tup vs)) (upd H p (.tup vs)) σ E ∧ Rp K (upd Hd p (.tup vs)) (.tup ds) (.ref p) := by
  obtain ⟨g, R'⟩ := R.newD (o := .tup vs) hp
  exact ⟨g, R', p, vs, rfl, st_of upd_same, RpA.ex g.ex _ _ h⟩
theorem xtup {k : _} (h : Ax X es tes mes) : Ex_ X (.Tuple es k pos) (tTup tes) (tupM mes) := ⟨pe_tup h.pa, fun {μ Hd H σ E r E'} R e Q q => by
  obtain ⟨rs, E1, e1, e⟩ := bindM_some e
  split at e
  · rename_i hz
    obtain ⟨ds, E2, e2, e⟩ := bindM_some e
    cases e
    refine h.am R e1 _ fun μ1 Hd1 H1 vs g1 R1 r1 => ?_
    obtain ⟨Hd2, g2, R2, r2⟩ := fzA_ok R1 r1 e2
    refine ⟨by rw [r1.len]; exact sz_of hz, fun p hp => ?_⟩
    obtain ⟨g3, R3, r3⟩ := tup_ok R2 r2 hp
    exact q _ _ _ _ ((g1.trans g2).trans g3) R3 r3
  · cases e⟩
theorem xlst (h : Ax X es tes mes) : Ex_ X (.List es pos) (tLst tes) (lstM mes) := ⟨pe_lst h.pa, fun {μ Hd H σ E r E'} R e Q q => by
  obtain ⟨rs, E1, e1, e⟩ := bindM_some e
  split at e
  · rename_i hz
    obtain ⟨ds, E2, e2, e⟩ := bindM_some e
    refine h.am R e1 _ fun μ1 Hd1 H1 vs g1 R1 r1 => ?_
    obtain ⟨Hd2, g2, R2, r2⟩ := fzA_ok R1 r1 e2
    refine ⟨by rw [r1.len]; exact sz_of hz, fun p hp => ?_⟩
    obtain ⟨g3, R3, r3⟩ := newL_ok R2 r2 e hp
    exact q _ _ _ _ ((g1.trans g2).trans g3) R3 r3
  · cases e⟩
end
end Hk
/-! Hk3: statements, loops, a def's promise and its call. -/
namespace Hk
open PySem PySem.Spec PyProof.Rows L2 Evl

section
variable {X : Cx} {a b c e tg iter : Expr} {ta tb tc te : TE} {ma mb mc m : M Vl} {pos : Pos} {tt : TT} {mt : M Bool} {st : Stmt} {sts rest : List Stmt} {ts tu : TS} {ms mu : En → Option Rs} {es : List Expr} {tes : TA} {mes : M (List Vl)}

/-! ### blocks -/
def nilS : En → Option Rs := fun E => some (.nx E)
def seqS (m n : En → Option Rs) : En → Option Rs := fun E => match m E with
  | some (.nx E1) => n E1
  | o => o
theorem sm_seq {K : PySem.W.Frag} (h1 : SM K ts ms) (h2 : SM K tu mu) : SM K (tSeq ts tu) (seqS ms mu) := fun {μ Hd H σ E R} r e D d => by
  unfold seqS at e
  cases q : ms E with
  | none =>
    rw [q] at e
    cases e
  | some Q =>
    rw [q] at e
    refine h1 r q _ ?_
    cases Q with
    | nx E1 => exact fun μ1 Hd1 H1 σ1 g1 R1 => h2 R1 e D (Dn.gr g1 d)
    | rt v E1 =>
      cases e
      exact d
    | bk E1 =>
      cases e
      exact d
    | ct E1 =>
      cases e
      exact d
theorem sm_next {K : PySem.W.Frag} : SM K tNext nilS := fun {μ Hd H σ E R} r e D d => by
  cases e
  exact d μ Hd H σ (Gr.refl μ Hd) r
theorem bnil : Bx X [] tNext nilS := ⟨pss_nil, sm_next⟩
theorem bone (h : Sx X st ts ms) : Bx X [st] ts ms := ⟨pss_one h.ps, h.sm⟩
theorem bcons (h : Sx X st ts ms) (hr : Bx X rest tu mu) : Bx X (st :: rest) (tSeq ts tu) (seqS ms mu) := ⟨pss_cons h.ps hr.ps, sm_seq h.sm hr.sm⟩
/-! ### simple statements -/
def setE (i : Nat) (r : Vl) (E : En) : En := ⟨E.sl.set i (some r), E.ce⟩
theorem Rl.setE {K : PySem.W.Frag} {μ : List Addr} {Hd H : Hp} {σ : L2.St} {E : En} {r : Vl} {v : V} (R : Rl K μ Hd H σ E) (i : Nat) (h : Rv K μ Hd r v) : Rl K μ Hd H (σ.set i (some v)) (setE i r E) := ⟨R.wo, R.sl.set i h⟩
def setS (i : Nat) (m : M Vl) : En → Option Rs := fun E => match m E with
  | some (r, E1) => some (.nx (setE i r E1))
  | none => none
theorem sm_set {K : PySem.W.Frag} {te : TE} {m : M Vl} (i : Nat) (h : EM K te m) : SM K (tAsg te (gName i)) (setS i m) := fun {μ Hd H σ E R} r e D d => by
  unfold setS at e
  cases q : m E with
  | none =>
    rw [q] at e
    cases e
  | some p =>
    obtain ⟨v, E1⟩ := p
    rw [q] at e
    cases e
    exact h r q _ fun μ1 Hd1 H1 x g1 R1 r1 => d μ1 Hd1 H1 _ g1 (R1.setE i r1)
theorem sset (i : Nat) {x : Str} {pos' : Pos} (h : Ex_ X e te m) (hN : X.N.Nodup) (hi : X.N[i]? = some x := by rfl) (hx : Loc X.env.scope x := by first | exact Or.inl rfl | exact Or.inr rfl) (hs : swapsWith e (some (.Name x pos')) pos.line X.env = pure false := by rfl)
    (hf : X.fn x = true ∨ X.env.scope.names.lookup x = some .local := by first | exact .inl rfl | exact .inr rfl) : Sx X (.Assign [.Name x pos'] e pos) (tAsg te (gName i)) (setS i m) := ⟨ps_set hN hi hx h.pe hs hf, sm_set i h.em⟩
/-- a, b = x, y: two names -/
def set2S (i j : Nat) (m : M (List Vl)) : En → Option Rs := fun E => match m E with
  | some ([x, y], E1) => some (.nx (setE j y (setE i x E1)))
  | _ => none
theorem sset2 {i j : Nat} {x y : Str} {px py pt : Pos} {kt k2 pt2} (h : Ax X [a, b] tes mes) (hc : X.calm = true) (hN : X.N.Nodup) (hi : X.N[i]? = some x) (hj : X.N[j]? = some y) (hij : i ≠ j)
    (hx : X.env.scope.names.lookup x = some .local) (hy : X.env.scope.names.lookup y = some .local)
    (hw : swappedStores [.Tuple [.Name x px, .Name y py] kt pt] (.Tuple [a, b] k2 pt2) X.env = pure (some [x, y]))
    (hs : swapsWithSole [.Tuple [.Name x px, .Name y py] kt pt] (.Tuple [a, b] k2 pt2) pos.line X.env = pure false := by rfl) :
    Sx X (.Assign [.Tuple [.Name x px, .Name y py] kt pt] (.Tuple [a, b] k2 pt2) pos) (tPar i j tes) (set2S i j mes) := ⟨ps_par hc hN hi hj hij hx hy h.pa hw hs, fun {μ Hd H σ E R} r e D d => by
  unfold set2S at e
  split at e
  · rename_i x y E1 q
    cases e
    refine h.am r q _ fun μ1 Hd1 H1 vs g1 R1 r1 => ?_
    cases r1 with
    | cons p1 t =>
      cases t with
      | cons p2 t2 =>
        cases t2
        exact ⟨_, _, rfl, d μ1 Hd1 H1 _ g1 ((R1.setE i p1).setE j p2)⟩
  · cases e⟩
def dropS (m : M Vl) : En → Option Rs := fun E => match m E with
  | some (_, E1) => some (.nx E1)
  | none => none
theorem sexpr (h : Ex_ X e te m) (hs : swapsWith e none pos.line X.env = pure false := by rfl) : Sx X (.Expr e pos) (tDrop te) (dropS m) := ⟨ps_expr h.pe hs, fun {μ Hd H σ E R} r q D d => by
  unfold dropS at q
  cases q1 : m E with
  | none =>
    rw [q1] at q
    cases q
  | some p =>
    obtain ⟨v, E1⟩ := p
    rw [q1] at q
    cases q
    exact h.em r q1 _ fun μ1 Hd1 H1 x g1 R1 r1 => d μ1 Hd1 H1 _ g1 R1⟩
def retS (m : M Vl) : En → Option Rs := fun E => match m E with
  | some (r, E1) => some (.rt r E1)
  | none => none
theorem sret (h : Ex_ X e te m) : Sx X (.Return (some e) pos) (tRet te) (retS m) := ⟨ps_ret h.pe, fun {μ Hd H σ E R} r q D d => by
  unfold retS at q
  cases q1 : m E with
  | none =>
    rw [q1] at q
    cases q
  | some p =>
    obtain ⟨v, E1⟩ := p
    rw [q1] at q
    cases q
    exact h.em r q1 _ fun μ1 Hd1 H1 x g1 R1 r1 => d μ1 Hd1 H1 _ x g1 R1 r1⟩
def ifS (t : M Bool) (m n : En → Option Rs) : En → Option Rs := fun E => match t E with
  | some (b, E1) => if b = true then m E1 else n E1
  | none => none
theorem sif (hc : Tx X c tt mt) (ha : Bx X sts ts ms) (hb : Bx X rest tu mu) : Sx X (.If c sts rest pos) (tIfS tt ts tu) (ifS mt ms mu) := ⟨ps_if hc.pt ha.ps hb.ps, fun {μ Hd H σ E R} r q D d => by
  unfold ifS at q
  cases q1 : mt E with
  | none =>
    rw [q1] at q
    cases q
  | some p =>
    obtain ⟨k, E1⟩ := p
    rw [q1] at q
    refine hc.tm r q1 _ fun μ1 Hd1 H1 g1 R1 => ?_
    cases k with
    | true => exact ha.sm R1 q D (Dn.gr g1 d)
    | false => exact hb.sm R1 q D (Dn.gr g1 d)⟩
/-- what is never reached -/
theorem bnever : Bx X sts tNever (fun _ => none) := ⟨pss_never, fun {μ Hd H σ E R} r q D d => by cases q⟩
/-- x op= e, two ints -/
def augS (i : Nat) (f : Int → Int → Int) (m : M Vl) : En → Option Rs := fun E => match E.sl[i]?, m E with
  | some (some (.d (.int x))), some (.d (.int y), E1) => some (.nx (setE i (.d (.int (f x y))) E1))
  | _, _ => none
/-! ### loops -/
def whileS (t : M Bool) (m : En → Option Rs) : Nat → En → Option Rs
  | 0, _ => none
  | n + 1, E => match t E with
    | some (true, E1) => match m E1 with
      | some (.nx E2) => whileS t m n E2
      | some (.ct E2) => whileS t m n E2
      | some (.bk E2) => some (.nx E2)
      | some (.rt r E2) => some (.rt r E2)
      | none => none
    | some (false, E1) => some (.nx E1)
    | none => none
theorem sm_while {K : PySem.W.Frag} (n : Nat) (hc : TM K tt mt) (hb : SM K ts ms) : SM K (tWhile tt ts) (whileS mt ms n) := fun {μ Hd H σ E R} r q D d => by
  refine ⟨fun k σ' H' => ∃ μ' Hd' E', Gr μ Hd μ' Hd' ∧ Rl K μ' Hd' H' σ' E' ∧ whileS mt ms k E' = some R, ⟨n, μ, Hd, E, Gr.refl μ Hd, r, q⟩, fun k σ' H' hw => ?_⟩
  obtain ⟨μ', Hd', E', g, r', q'⟩ := hw
  cases k with
  | zero => cases q'
  | succ k =>
    unfold whileS at q'
    cases q1 : mt E' with
    | none =>
      rw [q1] at q'
      cases q'
    | some p =>
      obtain ⟨b, E1⟩ := p
      rw [q1] at q'
      refine hc r' q1 _ fun μ1 Hd1 H1 g1 R1 => ?_
      cases b with
      | false =>
        cases q'
        exact d μ1 Hd1 H1 σ' (g.trans g1) R1
      | true =>
        refine ⟨fun σ2 H2 => ∃ m', m' < k + 1 ∧ ∃ μ2 Hd2 E2, Gr μ Hd μ2 Hd2 ∧ Rl K μ2 Hd2 H2 σ2 E2 ∧ whileS mt ms m' E2 = some R, fun _ _ h => h, ?_⟩
        have q' : (match ms E1 with
          | some (.nx E2) => whileS mt ms k E2
          | some (.ct E2) => whileS mt ms k E2
          | some (.bk E2) => some (.nx E2)
          | some (.rt r E2) => some (.rt r E2)
          | none => none) = some R := q'
        cases q2 : ms E1 with
        | none =>
          rw [q2] at q'
          cases q'
        | some Q =>
          rw [q2] at q'
          refine hb R1 q2 _ ?_
          cases Q with
          | nx E2 => exact fun μ2 Hd2 H2 σ2 g2 R2 => ⟨k, Nat.lt_succ_self k, μ2, Hd2, E2, (g.trans g1).trans g2, R2, q'⟩
          | ct E2 => exact fun μ2 Hd2 H2 σ2 g2 R2 => ⟨k, Nat.lt_succ_self k, μ2, Hd2, E2, (g.trans g1).trans g2, R2, q'⟩
          | bk E2 =>
            cases q'
            exact fun μ2 Hd2 H2 σ2 g2 R2 => d μ2 Hd2 H2 σ2 ((g.trans g1).trans g2) R2
          | rt v E2 =>
            cases q'
            exact fun μ2 Hd2 H2 σ2 w g2 R2 r2 => d μ2 Hd2 H2 σ2 w ((g.trans g1).trans g2) R2 r2
theorem swhile (n : Nat) (hp : PassesOwn (model X.prog X.w) X.A X.env X.xe) (hc : Tx X c tt mt) (hb : Bx X sts ts ms) : Sx X (.While c sts [] pos) (tWhile tt ts) (whileS mt ms n) := ⟨ps_while hp hc.pt hb.ps, sm_while n hc.tm hb.sm⟩

/-- an iterator that serves data -/
def Serves (J : It) (K : PySem.W.Frag) (Hd0 : Hp) (ds : List Dt) : Prop := ∀ (Hd H : Hp) (i : Nat), Ex Hd0 Hd → ExS Hd H → (ds.length ≤ i → J.stop i H) ∧ ∀ d, ds[i]? = some d → J.go i H ∧ ∀ x H', J.yld i H x H' →
  ∃ Hd', ((H' = H ∧ Hd' = Hd) ∨ ∃ p o, H p = none ∧ strip o = o ∧ H' = upd H p o ∧ Hd' = upd Hd p o) ∧ Rp K Hd' d x
def IM (K : PySem.W.Frag) (wi : TI) (m : M (List Dt)) : Prop := ∀ {μ : List Addr} {Hd H : Hp} {σ : L2.St} {E : En} {ds : List Dt} {E' : En}, Rl K μ Hd H σ E → m E = some (ds, E') → ∀ Q : It → Hp → Prop,
  (∀ μ' Hd' H' J, Gr μ Hd μ' Hd' → Rl K μ' Hd' H' σ E' → Serves J K Hd' ds → Q J H') → wi σ H Q
structure Ix_ (X : Cx) (tg iter : Expr) (wi : TI) (m : M (List Dt)) : Prop where
  pi : PI X tg iter wi
  im : IM X.K wi m
def forL (g : Vl → En → Option En) (m : En → Option Rs) : List Dt → En → Option Rs
  | [], E => some (.nx E)
  | d :: ds, E => match g (.d d) E with
    | some E1 => match m E1 with
      | some (.nx E2) => forL g m ds E2
      | some (.ct E2) => forL g m ds E2
      | some (.bk E2) => some (.nx E2)
      | some (.rt r E2) => some (.rt r E2)
      | none => none
    | none => none
def forS (i : M (List Dt)) (g : Vl → En → Option En) (m : En → Option Rs) : En → Option Rs := fun E => match i E with
  | some (ds, E1) => forL g m ds E1
  | none => none
theorem Serves.new {J : It} {K : PySem.W.Frag} {Hd : Hp} {ds : List Dt} (s : Serves J K Hd ds) {μ : List Addr} {Hd1 H1 : Hp} {σ : L2.St} {E : En} (R : Rl K μ Hd1 H1 σ E) (e : Ex Hd Hd1) {i : Nat} {d : Dt} (hd : ds[i]? = some d) :
    J.go i H1 ∧ ∀ x H', J.yld i H1 x H' → ∃ Hd', Gr μ Hd1 μ Hd' ∧ Rl K μ Hd' H' σ E ∧ Rp K Hd' d x := by
  obtain ⟨h1, h2⟩ := (s Hd1 H1 i e R.wo.ex).2 d hd
  refine ⟨h1, fun x H' hy => ?_⟩
  obtain ⟨Hd', hc, hr⟩ := h2 x H' hy
  rcases hc with ⟨rfl, rfl⟩ | ⟨p, o, hp, ho, rfl, rfl⟩
  · exact ⟨Hd', Gr.refl μ Hd', R, hr⟩
  · obtain ⟨g, R'⟩ := R.newD (o := o) hp ho
    exact ⟨_, g, R', hr⟩
theorem drop_cons {α : Type} {l : List α} {i : Nat} {x : α} {r : List α} (h : l.drop i = x :: r) : l[i]? = some x ∧ l.drop (i + 1) = r := by
  constructor
  · have q : (l.drop i)[0]? = some x := by
      rw [h]
      rfl
    rw [List.getElem?_drop] at q
    simpa using q
  · have q : (l.drop i).drop 1 = r := by
      rw [h]
      rfl
    rw [List.drop_drop] at q
    simpa [Nat.add_comm] using q
theorem for_at {K : PySem.W.Frag} {g : TG} {gm : Vl → En → Option En} (hg : GM K g gm) (hb : SM K ts ms) {μ1 : List Addr} {Hd1 H1 : Hp} {σ : L2.St} {E1 : En} {J : It} {ds : List Dt} {R : Rs} (R1 : Rl K μ1 Hd1 H1 σ E1) (sv : Serves J K Hd1 ds) (q : forL gm ms ds E1 = some R) (D : Ends) (d : Dn K μ1 Hd1 D R) : tFor (fun σ H R => R J H) g ts D σ H1 := by
  refine ⟨fun i k σ' H' => ∃ μ' Hd' E', Gr μ1 Hd1 μ' Hd' ∧ Rl K μ' Hd' H' σ' E' ∧ k = ds.length - i ∧ forL gm ms (ds.drop i) E' = some R, ⟨_, μ1, Hd1, E1, Gr.refl _ _, R1, rfl, q⟩, fun i k σ' H' hw => ?_⟩
  obtain ⟨μ', Hd', E', g2, R2, ek, q2⟩ := hw
  cases hd : ds.drop i with
  | nil =>
    rw [hd] at q2
    cases q2
    have hl : ds.length ≤ i := by
      have := congrArg List.length hd
      rw [List.length_drop] at this
      simp at this
      omega
    exact .inl ⟨(sv Hd' H' i g2.ex R2.wo.ex).1 hl, d μ' Hd' H' σ' g2 R2⟩
  | cons x rest =>
    rw [hd] at q2
    obtain ⟨hx, hr⟩ := drop_cons hd
    have hl : i < ds.length := (List.getElem?_eq_some_iff.mp hx).1
    obtain ⟨s1, s2⟩ := sv.new R2 g2.ex hx
    refine .inr ⟨s1, fun σ2 H2 => ∃ m', m' < k ∧ ∃ μ2 Hd2 E2, Gr μ1 Hd1 μ2 Hd2 ∧ Rl K μ2 Hd2 H2 σ2 E2 ∧ m' = ds.length - (i + 1) ∧ forL gm ms (ds.drop (i + 1)) E2 = some R, fun _ _ h => h, fun v H3 hy => ?_⟩
    obtain ⟨Hd3, g3, R3, r3⟩ := s2 v H3 hy
    unfold forL at q2
    cases q3 : gm (.d x) E' with
    | none =>
      rw [q3] at q2
      cases q2
    | some E3 =>
      rw [q3] at q2
      refine hg R3 (r := .d x) r3 q3 _ fun μ4 Hd4 H4 σ4 g4 R4 => ?_
      have q2 : (match ms E3 with
        | some (.nx E2) => forL gm ms rest E2
        | some (.ct E2) => forL gm ms rest E2
        | some (.bk E2) => some (.nx E2)
        | some (.rt r E2) => some (.rt r E2)
        | none => none) = some R := q2
      cases q4 : ms E3 with
      | none =>
        rw [q4] at q2
        cases q2
      | some Q =>
        rw [q4] at q2
        have gg : Gr μ1 Hd1 μ4 Hd4 := (g2.trans g3).trans g4
        refine hb R4 q4 _ ?_
        cases Q with
        | nx E5 => exact fun μ5 Hd5 H5 σ5 g5 R5 => ⟨ds.length - (i + 1), by omega, μ5, Hd5, E5, gg.trans g5, R5, rfl, by rw [hr]; exact q2⟩
        | ct E5 => exact fun μ5 Hd5 H5 σ5 g5 R5 => ⟨ds.length - (i + 1), by omega, μ5, Hd5, E5, gg.trans g5, R5, rfl, by rw [hr]; exact q2⟩
        | bk E5 =>
          cases q2
          exact fun μ5 Hd5 H5 σ5 g5 R5 => d μ5 Hd5 H5 σ5 (gg.trans g5) R5
        | rt v E5 =>
          cases q2
          exact fun μ5 Hd5 H5 σ5 w g5 R5 r5 => d μ5 Hd5 H5 σ5 w (gg.trans g5) R5 r5
theorem sm_for {K : PySem.W.Frag} {wi : TI} {mi : M (List Dt)} {g : TG} {gm : Vl → En → Option En} (hi : IM K wi mi) (hg : GM K g gm) (hb : SM K ts ms) : SM K (tFor wi g ts) (forS mi gm ms) := fun {μ Hd H σ E R} r q D d => by
  unfold forS at q
  cases q1 : mi E with
  | none =>
    rw [q1] at q
    cases q
  | some p =>
    obtain ⟨ds, E1⟩ := p
    rw [q1] at q
    refine hi r q1 _ fun μ1 Hd1 H1 J g1 R1 sv => ?_
    exact for_at hg hb R1 sv q D (d.gr g1)
theorem sfor {wi : TI} {mi : M (List Dt)} {g : TG} {gm : Vl → En → Option En} (hp : PassesOwn (model X.prog X.w) X.A X.env X.xe) (hc : X.calm = true) (hi : Ix_ X tg iter wi mi) (hg : Gx X tg g gm) (hb : Bx X sts ts ms)
    (hs : ∀ x, foldedSetIterable iter X.env x = pure x := by intro _; rfl) : Sx X (.For tg iter sts [] pos) (tFor wi g ts) (forS mi gm ms) := ⟨ps_for hp hc hi.pi hg.pg hb.ps hs, sm_for hi.im hg.gm hb.sm⟩
/-! ### targets, iterables -/
def nameG (i : Nat) : Vl → En → Option En := fun r E => some (setE i r E)
theorem gm_name {K : PySem.W.Frag} (i : Nat) : GM K (gName i) (nameG i) := fun {μ Hd H σ E E' r v} R h e Q q => by
  cases e
  exact q μ Hd H _ (Gr.refl μ Hd) (R.setE i h)
theorem gname (i : Nat) {x : Str} (hN : X.N.Nodup) (hi : X.N[i]? = some x := by rfl) (hx : Loc X.env.scope x := by first | exact Or.inl rfl | exact Or.inr rfl) (hf : X.fn x = true ∨ X.env.scope.names.lookup x = some .local := by first | exact .inl rfl | exact .inr rfl) :
    Gx X (.Name x pos) (gName i) (nameG i) := ⟨pg_name hN hi hx hf, gm_name i⟩
/-- a, b, .. out of a tuple that is data -/
def gsL : List (Vl → En → Option En) → List Dt → En → Option En
  | [], [], E => some E
  | g :: gs, d :: ds, E => match g (.d d) E with
    | some E1 => gsL gs ds E1
    | none => none
  | _, _, _ => none
def tupG (gs : List (Vl → En → Option En)) : Vl → En → Option En
  | .d (.tup ds), E => gsL gs ds E
  | _, _ => none
def GsM (K : PySem.W.Frag) (t : TGs) (gs : List (Vl → En → Option En)) : Prop := ∀ {μ : List Addr} {Hd H : Hp} {σ : L2.St} {E E' : En} {ds : List Dt} {vs : List V}, Rl K μ Hd H σ E → RpA K Hd ds vs → gsL gs ds E = some E' → ∀ Q : L2.St → Hp → Prop,
  (∀ μ' Hd' H' σ', Gr μ Hd μ' Hd' → Rl K μ' Hd' H' σ' E' → Q σ' H') → t vs σ H Q
theorem gsm_nil {K : PySem.W.Frag} : GsM K gNil [] := fun {μ Hd H σ E E' ds vs} R h e Q q => by
  cases ds with
  | nil =>
    cases e
    exact ⟨h, q μ Hd H σ (Gr.refl μ Hd) R⟩
  | cons d ds => cases e
theorem gsm_cons {K : PySem.W.Frag} {t : TG} {u : TGs} {g : Vl → En → Option En} {gs : List (Vl → En → Option En)} (h1 : GM K t g) (h2 : GsM K u gs) : GsM K (gCons t u) (g :: gs) := fun {μ Hd H σ E E' ds vs} R h e Q q => by
  cases ds with
  | nil => cases e
  | cons d ds =>
    unfold gsL at e
    cases q1 : g (.d d) E with
    | none =>
      rw [q1] at e
      cases e
    | some E1 =>
      rw [q1] at e
      obtain ⟨x, r, rfl, p1, p2⟩ := h
      refine ⟨x, r, rfl, h1 R (r := .d d) p1 q1 _ fun μ1 Hd1 H1 σ1 g1 R1 => ?_⟩
      exact h2 R1 (RpA.ex g1.ex _ _ p2) e Q fun μ2 Hd2 H2 σ2 g2 R2 => q μ2 Hd2 H2 σ2 (g1.trans g2) R2
theorem gsL_len {gs : List (Vl → En → Option En)} : ∀ {ds : List Dt} {E E' : En}, gsL gs ds E = some E' → ds.length = gs.length := by
  induction gs with
  | nil =>
    intro ds E E' h
    cases ds with
    | nil => rfl
    | cons d ds => cases h
  | cons g gs ih =>
    intro ds E E' h
    cases ds with
    | nil => cases h
    | cons d ds =>
      unfold gsL at h
      cases q1 : g (.d d) E with
      | none =>
        rw [q1] at h
        cases h
      | some E1 =>
        rw [q1] at h
        rw [List.length_cons, List.length_cons, ih h]
theorem gm_tup {K : PySem.W.Frag} {t : TGs} {gs : List (Vl → En → Option En)} {n : Nat} (hn : gs.length = n) (h : GsM K t gs) : GM K (gTup K n t) (tupG gs) := fun {μ Hd H σ E E' r v} R hv e Q q => by
  unfold tupG at e
  split at e
  · rename_i ds
    obtain ⟨a, vs, rfl, h2, h3⟩ := hv
    exact ⟨a, vs, rfl, exs_t R.wo.ex h2, by rw [h3.len, gsL_len e, hn], h R h3 e Q q⟩
  · cases e
theorem PI.or {w1 w2 : TI} (h1 : PI X tg iter w1) (h2 : PI X tg iter w2) : PI X tg iter (fun σ H R => w1 σ H R ∨ w2 σ H R) := ⟨fun pins s σ H R I h => by
  rcases h with h | h
  · exact h1.run pins s σ H R I h
  · exact h2.run pins s σ H R I h⟩
/-- the items of a list, of a tuple; a cell's list is data from then on -/
def itemsD : Dt → Option (List Dt)
  | .lst xs => some xs
  | .sq xs => some xs
  | .tup xs => some xs
  | _ => none
def itemsM (m : M Vl) : M (List Dt) := bindM (bindM m fzM) fun d => fun E => (itemsD d).map fun xs => (xs, E)
theorem serves_l {K : PySem.W.Frag} {Hd : Hp} {a : Addr} {ds : List Dt} {vs : List V} (h : SqL K Hd a vs) (hr : RpA K Hd ds vs) : Serves (Itl K a) K Hd ds := fun Hd1 H1 i e1 e2 => by
  have h1 := exs_l e2 (ex_l e1 h)
  refine ⟨fun hl => ⟨vs, h1, by rw [hr.len]; exact hl⟩, fun d hd => ?_⟩
  obtain ⟨v, g1, g2⟩ := RpA.at hr hd
  exact ⟨⟨vs, v, h1, g1⟩, fun x H' ⟨q1, q2⟩ => ⟨Hd1, .inl ⟨q1, rfl⟩, by
    have := Option.some.inj ((q2 vs h1).symm.trans g1)
    subst this
    exact Rp.ex e1 _ _ g2⟩⟩
theorem serves_t {K : PySem.W.Frag} {Hd : Hp} {a : Addr} {ds : List Dt} {vs : List V} (h : SqT K Hd a vs) (hr : RpA K Hd ds vs) : Serves (Itt K a) K Hd ds := fun Hd1 H1 i e1 e2 => by
  have h1 := exs_t e2 (ex_t e1 h)
  refine ⟨fun hl => ⟨vs, h1, by rw [hr.len]; exact hl⟩, fun d hd => ?_⟩
  obtain ⟨v, g1, g2⟩ := RpA.at hr hd
  exact ⟨⟨vs, v, h1, g1⟩, fun x H' ⟨q1, q2⟩ => ⟨Hd1, .inl ⟨q1, rfl⟩, by
    have := Option.some.inj ((q2 vs h1).symm.trans g1)
    subst this
    exact Rp.ex e1 _ _ g2⟩⟩
theorem iseq {te : TE} {m : M Vl} (h : Ex_ X iter te m) : Ix_ X tg iter (fun σ H R => iList X.K te σ H R ∨ iTup X.K te σ H R) (itemsM m) := ⟨PI.or (pi_list h.pe) (pi_tup h.pe), fun {μ Hd H σ E ds E'} R e Q q => by
  obtain ⟨d, E1, e1, e2⟩ := bindM_some e
  obtain ⟨r, E2, e3, e4⟩ := bindM_some e1
  cases d with
  | lst xs =>
    cases e2
    refine .inl (h.em R e3 _ fun μ1 Hd1 H1 v g1 R1 r1 => ?_)
    obtain ⟨Hd2, g2, R2, r2⟩ := fzM_ok R1 r1 e4
    obtain ⟨a, vs, rfl, h2, h3⟩ := r2
    exact ⟨a, rfl, ⟨vs, sq_of (R2.wo.ex a _ h2)⟩, q μ1 Hd2 H1 _ (g1.trans g2) R2 (serves_l (sq_of h2) h3)⟩
  | sq xs =>
    cases e2
    refine .inl (h.em R e3 _ fun μ1 Hd1 H1 v g1 R1 r1 => ?_)
    obtain ⟨Hd2, g2, R2, r2⟩ := fzM_ok R1 r1 e4
    obtain ⟨a, vs, rfl, h2, h3⟩ := r2
    exact ⟨a, rfl, ⟨vs, exs_l R2.wo.ex h2⟩, q μ1 Hd2 H1 _ (g1.trans g2) R2 (serves_l h2 h3)⟩
  | tup xs =>
    cases e2
    refine .inr (h.em R e3 _ fun μ1 Hd1 H1 v g1 R1 r1 => ?_)
    obtain ⟨Hd2, g2, R2, r2⟩ := fzM_ok R1 r1 e4
    obtain ⟨a, vs, rfl, h2, h3⟩ := r2
    exact ⟨a, rfl, ⟨vs, exs_t R2.wo.ex h2⟩, q μ1 Hd2 H1 _ (g1.trans g2) R2 (serves_t h2 h3)⟩
  | _ => cases e2⟩
def rngL (lo : Int) (n : Nat) : List Dt := (List.range n).map fun (i : Nat) => .int (lo + (i : Int))
theorem serves_r {K : PySem.W.Frag} {Hd : Hp} (lo : Int) (n : Nat) : Serves (Itr lo n) K Hd (rngL lo n) := fun Hd1 H1 i e1 e2 => by
  have hl : (rngL lo n).length = n := by simp [rngL]
  refine ⟨fun h => by rw [hl] at h; exact h, fun d hd => ?_⟩
  have hi : i < n := by
    have := (List.getElem?_eq_some_iff.mp hd).1
    omega
  refine ⟨hi, fun x H' ⟨q1, q2⟩ => ⟨Hd1, .inl ⟨q1, rfl⟩, ?_⟩⟩
  have e : d = .int (lo + (i : Int)) := by
    unfold rngL at hd
    rw [List.getElem?_map, List.getElem?_range hi] at hd
    exact (Option.some.inj hd).symm
  subst e q2
  exact rfl
def rng1M (m : M (List Vl)) : M (List Dt) := bindM m fun rs => match rs with
  | [.d (.int n)] => fun E => if -(2 ^ 62) ≤ n ∧ n < 2 ^ 62 then some (rngL 0 n.toNat, E) else none
  | _ => failM
theorem irng1 {p : Pos} (hm : X.mg "range" = none) (ha : Ax X [a] tes mes) (hg : Gl X "range" := by rfl) (hs : starEach [a] X.env = [(false, eval a X.env)] := by rfl) : Ix_ X tg (.Call (.Name "range" p) [a] [] pos) (iRng1 tes) (rng1M mes) := ⟨pi_range1 hg hm ha.pa hs, fun {μ Hd H σ E ds E'} R e Q q => by
  obtain ⟨rs, E1, e1, e2⟩ := bindM_some e
  split at e2
  · rename_i n
    split at e2
    · rename_i hn
      cases e2
      refine ha.am R e1 _ fun μ1 Hd1 H1 vs g1 R1 r1 => ?_
      cases r1 with
      | cons p1 t =>
        cases t
        cases (show _ = V.int n from p1)
        exact ⟨n, rfl, hn.1, hn.2, q μ1 Hd1 H1 _ g1 R1 (serves_r 0 n.toNat)⟩
    · cases e2
  · cases e2⟩
end

/-! ### a def's promise: what it does to values and cells -/
abbrev Fn := List Vl → List Ce → Option (Vl × List Ce)
def spM (K : PySem.W.Frag) (n : Nat) (G : Fn) : Sp := fun vs H Q _ => vs.length = n ∧ ∃ (μ : List Addr) (Hd : Hp) (ce : List Ce) (rs : List Vl) (z : Vl) (ce' : List Ce), Wo K μ Hd H ce ∧ RvA K μ Hd rs vs ∧ G rs ce = some (z, ce') ∧
  ∀ μ' Hd' H' v, Gr μ Hd μ' Hd' → Wo K μ' Hd' H' ce' → Rv K μ' Hd' z v → Q v H'
/-- back in the caller: the cells that it knew, and the one that is handed back -/
def trimC (n : Nat) (z : Vl) (ce : List Ce) : Option (Vl × List Ce) := match z with
  | .d d => some (.d d, ce.take n)
  | .c k => if k < n then some (.c k, ce.take n) else match ce[k]? with
    | some c => some (.c n, ce.take n ++ [c])
    | none => none
  | .t _ => none
  | .z ds => some (.z ds, ce.take n)
  | .g _ _ => none
theorem Wo.trim {K : PySem.W.Frag} {μ0 μ : List Addr} {Hd0 Hd H : Hp} {ce : List Ce} {n : Nat} {z z' : Vl} {v : V} {ce' : List Ce} (w : Wo K μ Hd H ce) (g : Gr μ0 Hd0 μ Hd) (hn : μ0.length = n) (hv : Rv K μ Hd z v) (h : trimC n z ce = some (z', ce')) :
    ∃ μ', Gr μ0 Hd0 μ' Hd ∧ Wo K μ' Hd H ce' ∧ Rv K μ' Hd z' v := by
  have hle : n ≤ μ.length := by
    rw [← hn]
    cases n with
    | zero => omega
    | succ n =>
      have h1 : μ0[n]? = some (μ0[n]'(by omega)) := List.getElem?_eq_getElem (by omega)
      have := (List.getElem?_eq_some_iff.mp (g.pre n _ h1)).1
      omega
  have pre : ∀ (k : Nat) (a : Addr), μ0[k]? = some a → (μ.take n)[k]? = some a := fun k a hk => by
    have := (List.getElem?_eq_some_iff.mp hk).1
    rw [List.getElem?_take_of_lt (by omega)]
    exact g.pre k a hk
  have tk : ∀ {α : Type} {l : List α} {k : Nat} {x : α}, (l.take n)[k]? = some x → l[k]? = some x := fun {α l k x} h => by
    rw [List.getElem?_take] at h
    split at h
    · exact h
    · cases h
  have wt : Wo K (μ.take n) Hd H (ce.take n) := ⟨w.ex, by rw [List.length_take, List.length_take, w.len], fun k a ks ds h1 h2 => ⟨(w.lk k a ks ds (tk h1) (tk h2)).1, fun j ks' ds' h3 h4 => (w.lk k a ks ds (tk h1) (tk h2)).2 j ks' ds' (tk h3) (tk h4)⟩, fun k c a h1 h2 => w.at_ k c a (tk h1) (tk h2), fun j k a c e h1 h2 h3 h4 => w.inj j k a c e (tk h1) (tk h2) (tk h3) (tk h4), fun k a P q h1 h2 => w.tb k a P q (tk h1) (tk h2), w.trs.take w.len n⟩
  unfold trimC at h
  cases z with
  | t rs => cases h
  | g L j => cases h
  | z zs =>
    cases h
    exact ⟨μ.take n, ⟨pre, g.ex⟩, wt, hv⟩
  | d d =>
    cases h
    exact ⟨μ.take n, ⟨pre, g.ex⟩, wt, hv⟩
  | c k =>
    obtain ⟨a, ha, rfl⟩ := hv
    have h : (if k < n then some (Vl.c k, ce.take n) else match ce[k]? with
      | some c => some (.c n, ce.take n ++ [c])
      | none => none) = some (z', ce') := h
    by_cases hk : k < n
    · rw [if_pos hk] at h
      cases h
      exact ⟨μ.take n, ⟨pre, g.ex⟩, wt, a, by rw [List.getElem?_take_of_lt hk]; exact ha, rfl⟩
    · rw [if_neg hk] at h
      cases hc : ce[k]? with
      | none =>
        rw [hc] at h
        cases h
      | some c =>
        rw [hc] at h
        cases h
        have lt : (μ.take n).length = n := by rw [List.length_take]; omega
        have lc : (ce.take n).length = n := by rw [List.length_take, ← w.len]; omega
        refine ⟨μ.take n ++ [a], ⟨fun j b hj => pre_app j b (pre j b hj), g.ex⟩, ⟨w.ex, by rw [List.length_append, List.length_append, lt, lc]; rfl, fun j b ks ds h1 h2 => ?_, fun j e b h1 h2 => ?_, fun i j b e f h1 h2 h3 h4 l1 l2 => ?_, fun j b P q h1 h2 => ?_, w.trs.trim w.len (by omega) hc ha⟩, a, ?_, rfl⟩
        rotate_left 3
        · rcases get_append_one h1 with h1 | ⟨h1, q1⟩ <;> rcases get_append_one h2 with h2 | ⟨h2, q2⟩
          · exact w.tb j b P q (tk h1) (tk h2)
          · have := (List.getElem?_eq_some_iff.mp h1).1
            omega
          · have := (List.getElem?_eq_some_iff.mp h2).1
            omega
          · obtain ⟨t1, t2⟩ := w.tb k b P q (by rw [hc, ← q1]) (by rw [ha, q2])
            exact ⟨t1, by omega⟩
        rotate_left
        · have cs : ∀ {i : Nat} {b : Addr} {e : Ce}, (μ.take n ++ [a])[i]? = some b → (ce.take n ++ [c])[i]? = some e → (i < n ∧ μ[i]? = some b ∧ ce[i]? = some e) ∨ (i = n ∧ μ[k]? = some b ∧ ce[k]? = some e) := fun {i b e} h1 h2 => by
            rcases get_append_one h1 with h1 | ⟨h1, q1⟩ <;> rcases get_append_one h2 with h2 | ⟨h2, q2⟩
            · have := (List.getElem?_eq_some_iff.mp h1).1
              exact .inl ⟨by omega, tk h1, tk h2⟩
            · have := (List.getElem?_eq_some_iff.mp h1).1
              omega
            · have := (List.getElem?_eq_some_iff.mp h2).1
              omega
            · exact .inr ⟨by omega, by rw [q1]; exact ha, by rw [q2]; exact hc⟩
          rcases cs h2 h1 with ⟨i1, i2, i3⟩ | ⟨i1, i2, i3⟩
          · obtain ⟨q1, uq⟩ := w.lk j b ks ds i3 i2
            refine ⟨q1, fun i ks' ds' h3 h4 => ?_⟩
            rcases cs h4 h3 with ⟨j1, j2, j3⟩ | ⟨j1, j2, j3⟩
            · exact uq i ks' ds' j3 j2
            · have := uq k ks' ds' j3 j2
              omega
          · obtain ⟨q1, uq⟩ := w.lk k b ks ds i3 i2
            refine ⟨q1, fun i ks' ds' h3 h4 => ?_⟩
            rcases cs h4 h3 with ⟨j1, j2, j3⟩ | ⟨j1, j2, j3⟩
            · have := uq i ks' ds' j3 j2
              omega
            · omega
        · rcases get_append_one h1 with h1 | ⟨h1, rfl⟩ <;> rcases get_append_one h2 with h2 | ⟨h2, rfl⟩
          · exact w.at_ j e b (tk h1) (tk h2)
          · have := (List.getElem?_eq_some_iff.mp h1).1
            omega
          · have := (List.getElem?_eq_some_iff.mp h2).1
            omega
          · exact w.at_ k e b hc ha
        · have cs : ∀ {i : Nat} {b : Addr} {e : Ce}, (μ.take n ++ [a])[i]? = some b → (ce.take n ++ [c])[i]? = some e → (i < n ∧ μ[i]? = some b ∧ ce[i]? = some e) ∨ (i = n ∧ μ[k]? = some b ∧ ce[k]? = some e) := fun {i b e} h1 h2 => by
            rcases get_append_one h1 with h1 | ⟨h1, q1⟩ <;> rcases get_append_one h2 with h2 | ⟨h2, q2⟩
            · have := (List.getElem?_eq_some_iff.mp h1).1
              exact .inl ⟨by omega, tk h1, tk h2⟩
            · have := (List.getElem?_eq_some_iff.mp h1).1
              omega
            · have := (List.getElem?_eq_some_iff.mp h2).1
              omega
            · exact .inr ⟨by omega, by rw [q1]; exact ha, by rw [q2]; exact hc⟩
          rcases cs h1 h3 with ⟨i1, i2, i3⟩ | ⟨i1, i2, i3⟩ <;> rcases cs h2 h4 with ⟨j1, j2, j3⟩ | ⟨j1, j2, j3⟩
          · exact w.inj i j b e f i2 j2 i3 j3 l1 l2
          · have q : i = k := w.inj i k b e f i2 j2 i3 j3 l1 l2
            omega
          · have q : k = j := w.inj k j b e f i2 j2 i3 j3 l1 l2
            omega
          · omega
        · have q : (μ.take n ++ [a])[(μ.take n).length]? = some a := by simp
          rw [lt] at q
          exact q
/-- a body as a function: nl local names beside the parameters -/
def fnOf (nl : Nat) (m : En → Option Rs) : Fn := fun rs ce => match m ⟨rs.map some ++ List.replicate nl none, ce⟩ with
  | some (.rt z E) => trimC ce.length z E.ce
  | some (.nx E) => trimC ce.length (.d .non) E.ce
  | _ => none
theorem sl_start {K : PySem.W.Frag} {μ : List Addr} {Hd : Hp} {nl : Nat} : ∀ {rs : List Vl} {vs : List V}, RvA K μ Hd rs vs → Sl K μ Hd (vs.map some ++ List.replicate nl none) (rs.map some ++ List.replicate nl none) := fun {rs vs} h => by
  refine ⟨by rw [List.length_append, List.length_append, List.length_map, List.length_map, h.len, List.length_replicate, List.length_replicate], ?_⟩
  induction h with
  | nil =>
    intro i r e
    have e : (List.replicate nl (none : Option Vl))[i]? = some (some r) := e
    rw [List.getElem?_replicate] at e
    split at e <;> cases e
  | cons h1 t ih =>
    intro i r e
    cases i with
    | zero =>
      cases e
      exact ⟨_, rfl, h1⟩
    | succ i => exact ih i r e
theorem run_fn {K : PySem.W.Frag} {nl n : Nat} {N : List Str} {ts : TS} {m : En → Option Rs} {vs : List V} {H : Hp} {Q : VK} {E : XK} (hm : SM K ts m) (hN : N.length = n + nl) (h : spM K n (fnOf nl m) vs H Q E) : ts { nx := fun _ H' => Q .non H', rt := Q } (L2.start N vs) H := by
  obtain ⟨hl, μ, Hd, ce, rs, z, ce', w, hr, e, q⟩ := h
  have es : L2.start N vs = vs.map some ++ List.replicate nl none := by
    unfold L2.start
    rw [hN, hl, Nat.add_sub_cancel_left]
  rw [es]
  unfold fnOf at e
  have R0 : Rl K μ Hd H (vs.map some ++ List.replicate nl none) ⟨rs.map some ++ List.replicate nl none, ce⟩ := ⟨w, sl_start hr⟩
  cases e1 : m ⟨rs.map some ++ List.replicate nl none, ce⟩ with
  | none =>
    rw [e1] at e
    cases e
  | some R =>
    rw [e1] at e
    refine hm R0 e1 _ ?_
    cases R with
    | rt z0 E1 =>
      exact fun μ1 Hd1 H1 σ1 v g1 R1 r1 => by
        obtain ⟨μ2, g2, w2, r2⟩ := R1.wo.trim g1 w.len r1 e
        exact q μ2 Hd1 H1 v g2 w2 r2
    | nx E1 =>
      exact fun μ1 Hd1 H1 σ1 g1 R1 => by
        obtain ⟨μ2, g2, w2, r2⟩ := R1.wo.trim g1 w.len (z := .d .non) (v := .non) (rfl : V.non = .non) e
        exact q μ2 Hd1 H1 .non g2 w2 r2
    | bk E1 => cases e
    | ct E1 => cases e
theorem spM_len {K : PySem.W.Frag} {n : Nat} {G : Fn} {ps : List Str} (hp : ps.length = n) : ∀ vs H Q E, spM K n G vs H Q E → vs.length = ps.length := fun vs H Q E h => by rw [hp]; exact h.1
/-- a call of a def -/
def callM (G : Fn) (m : M (List Vl)) : M Vl := bindM m fun rs => fun E => match G rs E.ce with
  | some (z, ce) => some (z, ⟨E.sl, ce⟩)
  | none => none
section
variable {X : Cx} {e : Expr} {es : List Expr} {tes : TA} {mes : M (List Vl)} {pos : Pos}
theorem em_call {K : PySem.W.Frag} {G : Fn} {n : Nat} {ta : TA} {ma : M (List Vl)} {E0 : XK} (hn : ∀ E rs E', ma E = some (rs, E') → rs.length = n) (h : AM K ta ma) : EM K (tCall (spM K n G) [] E0 ta) (callM G ma) := fun {μ Hd H σ E r E'} R q Q k => by
  obtain ⟨rs, E1, e1, e2⟩ := bindM_some q
  cases e3 : G rs E1.ce with
  | none =>
    rw [e3] at e2
    cases e2
  | some p =>
    obtain ⟨z, ce⟩ := p
    rw [e3] at e2
    cases e2
    refine h R e1 _ fun μ1 Hd1 H1 vs g1 R1 r1 => ?_
    rw [List.append_nil]
    exact ⟨by rw [r1.len, hn _ _ _ e1], μ1, Hd1, E1.ce, rs, r, ce, R1.wo, r1, e3, fun μ2 Hd2 H2 v g2 w2 r2 => k μ2 Hd2 H2 v (g1.trans g2) ⟨w2, R1.sl.gr g2⟩ r2⟩
theorem nil_len {n : Nat} (h : n = 0) : ∀ (E : En) (rs : List Vl) (E' : En), (retM [] : M (List Vl)) E = some (rs, E') → rs.length = n := fun E rs E' e => by
  cases e
  rw [h]
  rfl
theorem cons_len {n k : Nat} {m : M Vl} {ms : M (List Vl)} (h : ∀ (E : En) (rs : List Vl) (E' : En), ms E = some (rs, E') → rs.length = n) (hk : k = n + 1) : ∀ (E : En) (rs : List Vl) (E' : En), consM m ms E = some (rs, E') → rs.length = k := fun E rs E' e => by
  obtain ⟨x, E1, e1, e⟩ := bindM_some e
  obtain ⟨xs, E2, e2, e⟩ := bindM_some e
  cases e
  rw [List.length_cons, h _ _ _ e2, hk]
end
end Hk
/-! HkT: tuple * int, also by 1, by 0 and below. -/
namespace Hk
open PySem PySem.Spec PyProof.Rows L2 Evl
theorem tuple_mul1 (l : Addr) (items : Array Value) (n : Nat) (dd : Option Addr) (sl : Array (Option Value)) (x : Int) (u : Tok) (c0 : (decide (x < -(2 ^ 63)) || decide (x ≥ 2 ^ 63)) = false) (c1 : (items.isEmpty || x == 1) = true) :
    Meets (Builtin.«tuple.__mul__» ⟨[.ref l, .int x u], []⟩) (fun _ R s => s.heap.get? l = some { cls := .type "tuple", dict := dd, data := .seq items n, slots := sl } ∧ R (.ok (.ret (Value.ref l))) { s with heap := s.heap, toks := s.toks }) :=
  .of_wp fun prog w A R s h => by
    obtain ⟨hp, g, d, tk, os⟩ := s
    obtain ⟨hl, h⟩ := h
    have f1 := AutoSeq1.idx_int
    wp_walk using wpAny_loadPart' hl
    repeat (first
      | (refine wpAny_ite_false (decide_eq_false (by rw [c0]; exact Bool.false_ne_true)) ?_; wp_walk using wpAny_loadPart' hl)
      | (refine wpAny_ite_true (decide_eq_true (by rw [c1])) ?_; wp_walk using wpAny_loadPart' hl))
    exact ⟨_, rfl, h⟩
theorem tuple_mul0 (l : Addr) (items : Array Value) (n : Nat) (dd : Option Addr) (sl : Array (Option Value)) (x : Int) (u : Tok) (c0 : (decide (x < -(2 ^ 63)) || decide (x ≥ 2 ^ 63)) = false) (c1 : (items.isEmpty || x == 1) = false) (c2 : (decide (x ≤ 0) || items.isEmpty) = true) :
    Meets (Builtin.«tuple.__mul__» ⟨[.ref l, .int x u], []⟩) (fun _ R s => s.heap.get? l = some { cls := .type "tuple", dict := dd, data := .seq items n, slots := sl } ∧
      R (.ok (.ret (Value.ref s.heap.objs.size))) { s with heap := s.heap.push { cls := Value.type "tuple", data := Data.seq #[] }, toks := s.toks }) :=
  .of_wp fun prog w A R s h => by
    obtain ⟨hp, g, d, tk, os⟩ := s
    obtain ⟨hl, h⟩ := h
    have f1 := AutoSeq1.idx_int
    wp_walk using wpAny_loadPart' hl
    repeat (first
      | (refine wpAny_ite_false (decide_eq_false (by rw [c0]; exact Bool.false_ne_true)) ?_; wp_walk using wpAny_loadPart' hl)
      | (refine wpAny_ite_false (decide_eq_false (by rw [c1]; exact Bool.false_ne_true)) ?_; wp_walk using wpAny_loadPart' hl)
      | (refine wpAny_ite_true (decide_eq_true (by rw [c2])) ?_; wp_walk using wpAny_loadPart' hl))
    exact ⟨_, rfl, h⟩
def rRepU (K : PySem.W.Frag) : R2 := fun x y H Q => ∃ l k xs, x = .ref l ∧ y = .int k ∧ SqT K H l xs ∧ xs ≠ [] ∧ -1000 ≤ k ∧ k ≤ 1000 ∧ xs.length ≤ 1000 ∧ (k = 1 → Q (.ref l) H) ∧ (k ≠ 1 → ∀ p, H p = none → Q (.ref p) (upd H p (.tup (List.replicate k.toNat xs).flatten)))
section
variable {X : Cx}
theorem op_repU : OpR X (binaryOp .Mult) (rRepU X.K) := by
  intro pins s σ H x y v u Q I rx ry h
  obtain ⟨l, k, xs, rfl, rfl, hT, hne, h1, h2, hz, q1, q⟩ := h
  by_cases hk : 2 ≤ k
  · exact op_repT pins s σ H _ _ v u Q I rx ry ⟨l, k, xs, rfl, rfl, hT, hne, hk, h2, hz, q (by omega)⟩
  cases rx
  obtain ⟨t, rfl⟩ := ry
  obtain ⟨its, r, ⟨⟨cls, dd, data, sl⟩, ho, hc, n, hd⟩, hs⟩ := I.tuple hT
  simp only at hc hd
  subst hc hd
  have hle : its.length = xs.length := r.length.symm
  have hn : its ≠ [] := fun e => hne (by
    rw [e] at hle
    exact List.eq_nil_of_length_eq_zero hle.symm)
  have hi : its.toArray.isEmpty = false := by
    cases its with
    | nil => exact absurd rfl hn
    | cons a b => rfl
  have c0 : (decide (k < -(2 ^ 63)) || decide (k ≥ 2 ^ 63)) = false := by
    rw [decide_eq_false (by omega), decide_eq_false (by omega)] <;> rfl
  by_cases hk1 : k = 1
  · have c1 : (its.toArray.isEmpty || k == 1) = true := by
      rw [hk1]
      cases its.toArray.isEmpty <;> rfl
    exact wpAny_binaryOp_repeat_ref (T := "tuple") (U := "int") (by decide) ⟨_, ho, rfl⟩ (fun s' => typeIs_int s' k t) noFill_tuple_mul F.fills_int_mul F.slot_int_rmul repeat_tuple F.slot_int_index.lookup
      (call_meets F.slot_int_rmul (typeIs_int s k t) F.entry_int_rmul (F.args_int_rmul_2 _ _) (int_rmul_tuple k t l its.toArray n dd sl)
        ⟨ho, rfl, ⟨_, ho, rfl⟩, call_meets F.slot_tuple_mul ⟨_, ho, rfl⟩ F.entry_tuple_mul (F.args_tuple_mul_2 _ _) (tuple_mul1 l its.toArray n dd sl k t c0 c1) ⟨ho, ⟨.ref l, H, I.tok _, rfl, q1 hk1⟩⟩⟩)
  · have c1 : (its.toArray.isEmpty || k == 1) = false := by
      rw [hi, Bool.false_or]
      exact beq_eq_false_iff_ne.mpr hk1
    have c2 : (decide (k ≤ 0) || its.toArray.isEmpty) = true := by
      rw [decide_eq_true (by omega)] <;> rfl
    refine wpAny_binaryOp_repeat_ref (T := "tuple") (U := "int") (by decide) ⟨_, ho, rfl⟩ (fun s' => typeIs_int s' k t) noFill_tuple_mul F.fills_int_mul F.slot_int_rmul repeat_tuple F.slot_int_index.lookup
      (call_meets F.slot_int_rmul (typeIs_int s k t) F.entry_int_rmul (F.args_int_rmul_2 _ _) (int_rmul_tuple k t l its.toArray n dd sl)
        ⟨ho, rfl, ⟨_, ho, rfl⟩, call_meets F.slot_tuple_mul ⟨_, ho, rfl⟩ F.entry_tuple_mul (F.args_tuple_mul_2 _ _) (tuple_mul0 l its.toArray n dd sl k t c0 c1 c2) ⟨ho, ?_⟩⟩)
    have e0 : (List.replicate k.toNat xs).flatten = [] := by
      have : k.toNat = 0 := by omega
      rw [this]
      rfl
    have q2 := q hk1
    rw [e0] at q2
    refine ⟨.ref s.heap.objs.size, _, I.laid (t' := s.toks) (o := .tup []) (fun b ob q => Heap.get?_push_of_some _ q) (Nat.le_refl _) ?_, rfl, q2 _ (I.hok.fresh (Nat.le_refl _))⟩
    exact ⟨Nat.zero_le _, [], .nil, IsTup.new _ _⟩
end
end Hk
/-! Hk4: operators, comparisons, items, slices, built-ins, a list's methods. -/
namespace Hk
open PySem PySem.Spec PyProof.Rows L2 Evl

def rNotNoU : R2 := fun x y H Q => y = .non ∧ Q (.bl (!decide (x = .non))) H
def rLenU (K : PySem.W.Frag) : List V → Hp → VK → Prop := fun xs H Q => ∃ x n, xs = [x] ∧ LenV K x H n ∧ Q (.int n) H
def rAbsU : List V → Hp → VK → Prop := fun xs H Q => ∃ i, xs = [.int i] ∧ Q (.int (if i < 0 then -i else i)) H
def rIntU : List V → Hp → VK → Prop := fun xs H Q => (∃ i, xs = [.int i] ∧ Q (.int i) H) ∨ ∃ k, xs = [.bl k] ∧ Q (.int (if k then 1 else 0)) H
def rTupU (K : PySem.W.Frag) : List V → Hp → VK → Prop := fun xs H Q => ∃ p ys, xs = [.ref p] ∧ ((SqL K H p ys ∧ ∀ l, H l = none → Q (.ref l) (upd H l (.tup ys))) ∨ (SqT K H p ys ∧ Q (.ref p) H))
theorem op_notNoU {X : Cx} : OpR X (compareOp .IsNot) rNotNoU := op_notN
theorem call_lenU {X : Cx} : CallR X (.builtin "len") (rLenU X.K) := call_len
theorem call_absU {X : Cx} : CallR X (.builtin "abs") rAbsU := call_abs
theorem call_intU {X : Cx} : CallR X (.type "int") rIntU := call_int1
theorem call_tupleU {X : Cx} : CallR X (.type "tuple") (rTupU X.K) := call_tuple_of

/-! ### data that can be compared -/
mutual
def toP : Dt → Option PyData
  | .non => some .none
  | .bl b => some (.bool b)
  | .int i => some (.int i)
  | .str s => some (.str s)
  | .lst xs => (toPA xs).map .list
  | .sq xs => (toPA xs).map .list
  | .tup xs => (toPA xs).map .tuple
  | _ => none
def toPA : List Dt → Option (List PyData)
  | [] => some []
  | d :: ds => match toP d, toPA ds with
    | some p, some ps => some (p :: ps)
    | _, _ => none
end
mutual
theorem toP_ok {K : PySem.W.Frag} {H : Hp} : ∀ (d : Dt) {v : V} {p : PyData}, Rp K H d v → toP d = some p → Dp K H v p
  | .non, v, p, h, e => by
    cases e
    cases (show v = .non from h)
    exact .non
  | .bl b, v, p, h, e => by
    cases e
    cases (show v = .bl b from h)
    exact .bl b
  | .int i, v, p, h, e => by
    cases e
    cases (show v = .int i from h)
    exact .int i
  | .str s, v, p, h, e => by
    cases e
    cases (show v = .str s from h)
    exact .str s
  | .lst xs, v, p, h, e => by
    obtain ⟨a, vs, rfl, h2, h3⟩ := h
    cases q : toPA xs with
    | none =>
      rw [toP, q] at e
      cases e
    | some ps =>
      rw [toP, q] at e
      cases e
      exact .lst (sq_of h2) (toPA_ok xs h3 q)
  | .sq xs, v, p, h, e => by
    obtain ⟨a, vs, rfl, h2, h3⟩ := h
    cases q : toPA xs with
    | none =>
      rw [toP, q] at e
      cases e
    | some ps =>
      rw [toP, q] at e
      cases e
      exact .lst h2 (toPA_ok xs h3 q)
  | .tup xs, v, p, h, e => by
    obtain ⟨a, vs, rfl, h2, h3⟩ := h
    cases q : toPA xs with
    | none =>
      rw [toP, q] at e
      cases e
    | some ps =>
      rw [toP, q] at e
      cases e
      exact .tup h2 (toPA_ok xs h3 q)
  | .obj C ns ds, v, p, h, e => by
    simp [toP] at e
  | .dic ks ds, v, p, h, e => by
    simp [toP] at e
theorem toPA_ok {K : PySem.W.Frag} {H : Hp} : ∀ (ds : List Dt) {vs : List V} {ps : List PyData}, RpA K H ds vs → toPA ds = some ps → DpAll K H vs ps
  | [], vs, ps, h, e => by
    cases e
    rw [show vs = [] from h]
    exact .nil
  | d :: ds, vs, ps, h, e => by
    obtain ⟨x, r, rfl, h2, h3⟩ := h
    cases q1 : toP d with
    | none =>
      rw [toPA, q1] at e
      · cases e
      all_goals (intros; nofun)
    | some p1 =>
      cases q2 : toPA ds with
      | none =>
        simp [toPA, q1, q2] at e
      | some p2 =>
        rw [toPA, q1, q2] at e
        cases e
        exact .cons (toP_ok d h2 q1) (toPA_ok ds h3 q2)
end
def eqd (x y : Dt) : Option Bool := match toP x, toP y with
  | some p, some q => if SeqAt.shaped p = true ∧ SeqAt.shaped q = true then some (PyData.eqv p q) else none
  | _, _ => none
theorem eqd_some {x y : Dt} {b : Bool} (h : eqd x y = some b) : ∃ p q, toP x = some p ∧ toP y = some q ∧ SeqAt.shaped p = true ∧ SeqAt.shaped q = true ∧ b = PyData.eqv p q := by
  unfold eqd at h
  split at h
  · rename_i p q e1 e2
    split at h
    · rename_i hs
      cases h
      exact ⟨p, q, e1, e2, hs.1, hs.2, rfl⟩
    · cases h
  · cases h

section
variable {K : PySem.W.Frag}
/-- an operation that looks at two values and hands back data that has no parts -/
def op2 (f : Dt → Dt → Option Dt) : Vl → Vl → M Vl := fun x y E => match see E.ce x, see E.ce y with
  | some a, some b => (f a b).map fun d => (.d d, E)
  | _, _ => none
theorem op2_some {f : Dt → Dt → Option Dt} {x y z : Vl} {E E' : En} (h : op2 f x y E = some (z, E')) : ∃ a b d, see E.ce x = some a ∧ see E.ce y = some b ∧ f a b = some d ∧ z = .d d ∧ E' = E := by
  unfold op2 at h
  split at h
  · rename_i a b e1 e2
    cases q : f a b with
    | none =>
      rw [q] at h
      cases h
    | some d =>
      rw [q] at h
      cases h
      exact ⟨a, b, d, e1, e2, q, rfl, rfl⟩
  · cases h
theorem om_op2 {r : R2} {f : Dt → Dt → Option Dt} (h : ∀ (H : Hp) (a b d : Dt) (vx vy : V), Rp K H a vx → Rp K H b vy → f a b = some d → ∀ Q : VK, (∀ v, (∀ H', Rp K H' d v) → Q v H) → r vx vy H Q) : OM K r (op2 f) := fun {μ Hd H σ E x y vx vy z E'} R hx hy e Q q => by
  obtain ⟨a, b, d, e1, e2, e3, rfl, rfl⟩ := op2_some e
  exact h H a b d vx vy (see_ok R.wo hx e1) (see_ok R.wo hy e2) e3 Q fun v hv => q μ Hd H v (Gr.refl μ Hd) R (hv Hd)
/-! ### comparisons -/
def eqF : Dt → Dt → Option Dt := fun x y => (eqd x y).map .bl
def neF : Dt → Dt → Option Dt := fun x y => (eqd x y).map fun b => .bl (!b)
theorem om_eq : OM K (rEqD K) (op2 eqF) := om_op2 fun H a b d vx vy ha hb e Q q => by
  unfold eqF at e
  cases e1 : eqd a b with
  | none =>
    rw [e1] at e
    cases e
  | some k =>
    rw [e1] at e
    cases e
    obtain ⟨p1, p2, h1, h2, s1, s2, rfl⟩ := eqd_some e1
    exact ⟨p1, p2, toP_ok a ha h1, toP_ok b hb h2, s1, s2, q _ fun _ => rfl⟩
theorem om_ne : OM K (rNeD K) (op2 neF) := om_op2 fun H a b d vx vy ha hb e Q q => by
  unfold neF at e
  cases e1 : eqd a b with
  | none =>
    rw [e1] at e
    cases e
  | some k =>
    rw [e1] at e
    cases e
    obtain ⟨p1, p2, h1, h2, s1, s2, rfl⟩ := eqd_some e1
    exact ⟨p1, p2, toP_ok a ha h1, toP_ok b hb h2, s1, s2, q _ fun _ => rfl⟩
/-- of two ints -/
def intF (g : Int → Int → Option Dt) : Dt → Dt → Option Dt
  | .int i, .int j => g i j
  | _, _ => none
theorem intF_some {g : Int → Int → Option Dt} {a b d : Dt} (h : intF g a b = some d) : ∃ i j, a = .int i ∧ b = .int j ∧ g i j = some d := by
  unfold intF at h
  split at h
  · exact ⟨_, _, rfl, rfl, h⟩
  · cases h
theorem om_intB {f : Int → Int → Bool} : OM K (rI0 fun i j => .bl (f i j)) (op2 (intF fun i j => some (.bl (f i j)))) := om_op2 fun H a b d vx vy ha hb e Q q => by
  obtain ⟨i, j, rfl, rfl, e⟩ := intF_some e
  cases e
  exact ⟨i, j, ha, hb, q _ fun _ => rfl⟩
theorem om_intI0 {f : Int → Int → Int} : OM K (rI0 fun i j => .int (f i j)) (op2 (intF fun i j => some (.int (f i j)))) := om_op2 fun H a b d vx vy ha hb e Q q => by
  obtain ⟨i, j, rfl, rfl, e⟩ := intF_some e
  cases e
  exact ⟨i, j, ha, hb, q _ fun _ => rfl⟩
theorem om_intI {C : Int → Int → Prop} [∀ i j, Decidable (C i j)] {f : Int → Int → Int} : OM K (rI C fun i j => .int (f i j)) (op2 (intF fun i j => if C i j then some (.int (f i j)) else none)) := om_op2 fun H a b d vx vy ha hb e Q q => by
  obtain ⟨i, j, rfl, rfl, e2⟩ := intF_some e
  split at e2
  · rename_i hc
    cases e2
    exact ⟨i, j, ha, hb, hc, q _ fun _ => rfl⟩
  · cases e2
abbrev ltF := intF fun i j => some (.bl (decide (i < j)))
abbrev leF := intF fun i j => some (.bl (decide (i ≤ j)))
abbrev gtF := intF fun i j => some (.bl (decide (j < i)))
abbrev geF := intF fun i j => some (.bl (decide (j ≤ i)))
instance : ∀ i j, Decidable (CDivN i j) := fun i j => by unfold CDivN; infer_instance
instance : ∀ i j, Decidable (CPow i j) := fun i j => by unfold CPow; infer_instance
instance : ∀ i j, Decidable (CMul i j) := fun i j => by unfold CMul; infer_instance
instance : ∀ (i j : Int), Decidable ((fun _ j => j ≠ 0 : Int → Int → Prop) i j) := fun i j => by show Decidable (j ≠ 0); infer_instance
abbrev modF := intF fun i j => if (fun _ j => j ≠ 0 : Int → Int → Prop) i j then some (.int (i.fmod j)) else none
abbrev fdivF := intF fun i j => if CDivN i j then some (.int (i.fdiv j)) else none
abbrev powF := intF fun i j => if CPow i j then some (.int (i ^ j.toNat)) else none
abbrev subF := intF fun i j => some (.int (i - j))
/-- is None -/
def isNF (neg : Bool) : Dt → Dt → Option Dt := fun x y => match y with
  | .non => match x with
    | .non => some (.bl (!neg))
    | _ => some (.bl neg)
  | _ => none
theorem Rp.non_iff {H : Hp} : ∀ {d : Dt} {v : V}, Rp K H d v → (v = .non ↔ d = .non) := fun {d v} h => by
  cases d with
  | non => exact ⟨fun _ => rfl, fun _ => h⟩
  | bl b => exact ⟨fun e => (by rw [e] at h; cases h), fun e => (by cases e)⟩
  | int b => exact ⟨fun e => (by rw [e] at h; cases h), fun e => (by cases e)⟩
  | str b => exact ⟨fun e => (by rw [e] at h; cases h), fun e => (by cases e)⟩
  | lst b => exact ⟨fun e => (by obtain ⟨a, _, h, _⟩ := h; rw [e] at h; cases h), fun e => (by cases e)⟩
  | sq b => exact ⟨fun e => (by obtain ⟨a, _, h, _⟩ := h; rw [e] at h; cases h), fun e => (by cases e)⟩
  | tup b => exact ⟨fun e => (by obtain ⟨a, _, h, _⟩ := h; rw [e] at h; cases h), fun e => (by cases e)⟩
  | obj b c d => exact ⟨fun e => (by obtain ⟨a, _, _, h, _⟩ := h; rw [e] at h; cases h), fun e => (by cases e)⟩
  | dic b c => exact ⟨fun e => (by obtain ⟨a, _, h, _⟩ := h; rw [e] at h; cases h), fun e => (by cases e)⟩
  | cls C => exact ⟨fun e => (by rw [e] at h; cases h), fun e => (by cases e)⟩
  | exc b c d => exact ⟨fun e => (by obtain ⟨a, _, h, _⟩ := h; rw [e] at h; cases h), fun e => (by cases e)⟩
theorem om_notN : OM K rNotNoU (op2 (isNF true)) := om_op2 (f := isNF true) fun H a b d vx vy ha hb e Q q => by
  have hn := Rp.non_iff ha
  unfold isNF at e
  split at e
  · refine ⟨hb, ?_⟩
    split at e
    · cases e
      rw [show decide (vx = V.non) = true from decide_eq_true (hn.mpr rfl)]
      exact q _ fun _ => rfl
    · rename_i hne
      cases e
      rw [show decide (vx = V.non) = false from decide_eq_false fun h => hne (hn.mp h)]
      exact q _ fun _ => rfl
  · cases e
/-- x in a list or tuple of flat things -/
def flD : Dt → Option V
  | .non => some .non
  | .bl b => some (.bl b)
  | .int i => some (.int i)
  | .str s => some (.str s)
  | _ => none
def flA : List Dt → Option (List V)
  | [] => some []
  | d :: ds => match flD d, flA ds with
    | some v, some vs => some (v :: vs)
    | _, _ => none
theorem flD_ok {H : Hp} {d : Dt} {v w : V} (h : Rp K H d v) (e : flD d = some w) : v = w ∧ flatV v = true := by
  unfold flD at e
  split at e <;> first | cases e | skip
  · exact ⟨h, by rw [show v = V.non from h]; rfl⟩
  · rename_i b
    exact ⟨h, by rw [show v = V.bl b from h]; rfl⟩
  · rename_i b
    exact ⟨h, by rw [show v = V.int b from h]; rfl⟩
  · rename_i b
    exact ⟨h, by rw [show v = V.str b from h]; rfl⟩
theorem flA_ok {H : Hp} : ∀ {ds : List Dt} {vs ws : List V}, RpA K H ds vs → flA ds = some ws → vs = ws ∧ vs.all flatV = true
  | [], vs, ws, h, e => by
    cases e
    rw [show vs = [] from h]
    exact ⟨rfl, rfl⟩
  | d :: ds, vs, ws, h, e => by
    obtain ⟨x, r, rfl, h2, h3⟩ := h
    unfold flA at e
    split at e
    · rename_i v us e1 e2
      cases e
      obtain ⟨p1, p2⟩ := flD_ok h2 e1
      obtain ⟨p3, p4⟩ := flA_ok h3 e2
      exact ⟨by rw [p1, p3], by rw [List.all_cons, p2, p4]; rfl⟩
    · cases e
def inF (neg : Bool) : Dt → Dt → Option Dt := fun x y => match flD x, itemsD y with
  | some v, some ds => match flA ds with
    | some vs => some (.bl (if neg then !inV v vs else inV v vs))
    | none => none
  | _, _ => none
theorem items_ok {H : Hp} {d : Dt} {v : V} {ds : List Dt} (h : Rp K H d v) (e : itemsD d = some ds) : ∃ a vs, v = .ref a ∧ (SqL K H a vs ∨ SqT K H a vs) ∧ RpA K H ds vs := by
  cases d with
  | lst xs =>
    cases e
    obtain ⟨a, vs, h1, h2, h3⟩ := h
    exact ⟨a, vs, h1, .inl (sq_of h2), h3⟩
  | sq xs =>
    cases e
    obtain ⟨a, vs, h1, h2, h3⟩ := h
    exact ⟨a, vs, h1, .inl h2, h3⟩
  | tup xs =>
    cases e
    obtain ⟨a, vs, h1, h2, h3⟩ := h
    exact ⟨a, vs, h1, .inr h2, h3⟩
  | _ => cases e
theorem om_in (neg : Bool) : OM K (rIn K neg) (op2 (inF neg)) := om_op2 fun H a b d vx vy ha hb e Q q => by
  unfold inF at e
  split at e
  · rename_i v ds e1 e2
    split at e
    · rename_i vs e3
      cases e
      obtain ⟨p, us, rfl, hs, hr⟩ := items_ok hb e2
      obtain ⟨rfl, f1⟩ := flD_ok ha e1
      obtain ⟨rfl, f2⟩ := flA_ok hr e3
      exact ⟨p, us, rfl, hs, f1, f2, q _ fun _ => rfl⟩
    · cases e
  · cases e

/-! ### + and * -/
def catStr : Dt → Dt → Option Dt
  | .str a, .str b => if a.length + b.length ≤ sizeLine then some (.str (a ++ b)) else none
  | _, _ => none
def addF : Vl → Vl → M Vl := fun x y E => match see E.ce x, see E.ce y with
  | some (.int i), some (.int j) => some (.d (.int (i + j)), E)
  | some (.str a), some (.str b) => if a.length + b.length ≤ sizeLine then some (.d (.str (a ++ b)), E) else none
  | some (.lst a), some (.lst b) => if a.length + b.length ≤ 100000 then newL (a ++ b) E else none
  | some (.tup a), some (.tup b) => if a.length + b.length ≤ 100000 then some (.d (.tup (a ++ b)), E) else none
  | _, _ => none
def rCatS : R2 := fun x y H Q => ∃ i j, x = .str i ∧ y = .str j ∧ i.length + j.length ≤ sizeLine ∧ Q (.str (i ++ j)) H
abbrev rAdd (K : PySem.W.Frag) : R2 := fun x y H Q => rI0 (fun i j => .int (i + j)) x y H Q ∨ rCatS x y H Q ∨ rCat x y H Q ∨ rCatA K x y H Q
theorem op_addU {X : Cx} : OpR X (binaryOp .Add) (rAdd X.K) := op_add.or (OpR.or (r := rCatS) op_add_str (op_cat.or op_catA))
theorem om_add : OM K (rAdd K) addF := fun {μ Hd H σ E x y vx vy z E'} R hx hy e Q q => by
  unfold addF at e
  split at e
  · rename_i i j e1 e2
    cases e
    exact .inl ⟨i, j, see_ok R.wo hx e1, see_ok R.wo hy e2, q μ Hd H _ (Gr.refl μ Hd) R rfl⟩
  · rename_i a b e1 e2
    split at e
    · rename_i hz
      cases e
      exact .inr (.inl ⟨a, b, see_ok R.wo hx e1, see_ok R.wo hy e2, hz, q μ Hd H _ (Gr.refl μ Hd) R rfl⟩)
    · cases e
  · rename_i a b e1 e2
    split at e
    · rename_i hz
      obtain ⟨p1, v1, rfl, h1, r1⟩ := see_lst R.wo hx e1
      obtain ⟨p2, v2, rfl, h2, r2⟩ := see_lst R.wo hy e2
      refine .inr (.inr (.inl ⟨p1, p2, v1, v2, rfl, rfl, h1, h2, by rw [r1.len, r2.len]; exact sz_of hz, fun p hp => ?_⟩))
      obtain ⟨g, R', r'⟩ := newL_ok R (r1.app r2) e hp
      exact q _ _ _ _ g R' r'
    · cases e
  · rename_i a b e1 e2
    split at e
    · rename_i hz
      cases e
      obtain ⟨p1, v1, rfl, h1, r1⟩ := see_tup R.wo hx e1
      obtain ⟨p2, v2, rfl, h2, r2⟩ := see_tup R.wo hy e2
      refine .inr (.inr (.inr ⟨p1, p2, v1, v2, rfl, rfl, h1, h2, by rw [r1.len, r2.len]; exact sz_of hz, fun hn => ?_, fun hn hm => ?_, fun hn hm p hp => ?_⟩))
      · have ea : a = [] := List.eq_nil_of_length_eq_zero (by rw [← r1.len, hn]; rfl)
        subst ea
        exact q μ Hd H _ (Gr.refl μ Hd) R (see_flat hy e2)
      · have eb : b = [] := List.eq_nil_of_length_eq_zero (by rw [← r2.len, hm]; rfl)
        subst eb
        rw [List.append_nil] at q
        exact q μ Hd H _ (Gr.refl μ Hd) R (see_flat hx e1)
      · obtain ⟨g, R', r'⟩ := tup_ok R (r1.app r2) hp
        exact q _ _ _ _ g R' r'
    · cases e
  · cases e
def mulF : Vl → Vl → M Vl := fun x y E => match see E.ce x, see E.ce y with
  | some (.int i), some (.int j) => if CMul i j then some (.d (.int (i * j)), E) else none
  | some (.lst a), some (.int j) => if -1000 ≤ j ∧ j ≤ 1000 ∧ a.length ≤ 1000 then newL (List.replicate j.toNat a).flatten E else none
  | some (.tup a), some (.int j) => if -1000 ≤ j ∧ j ≤ 1000 ∧ a.length ≤ 1000 ∧ a ≠ [] then some (.d (.tup (List.replicate j.toNat a).flatten), E) else none
  | _, _ => none
abbrev rMulU (K : PySem.W.Frag) : R2 := fun x y H Q => rI CMul (fun i j => .int (i * j)) x y H Q ∨ rRep x y H Q ∨ rRepU K x y H Q
theorem op_mulU {X : Cx} : OpR X (binaryOp .Mult) (rMulU X.K) := op_mul.or (op_rep.or op_repU)
theorem RpA.repl {H : Hp} {ds : List Dt} {vs : List V} (h : RpA K H ds vs) : ∀ n, RpA K H (List.replicate n ds).flatten (List.replicate n vs).flatten
  | 0 => rfl
  | n + 1 => by
    rw [List.replicate_succ, List.replicate_succ, List.flatten_cons, List.flatten_cons]
    exact h.app (RpA.repl h n)
theorem om_mul : OM K (rMulU K) mulF := fun {μ Hd H σ E x y vx vy z E'} R hx hy e Q q => by
  unfold mulF at e
  split at e
  · rename_i i j e1 e2
    split at e
    · rename_i hc
      cases e
      exact .inl ⟨i, j, see_ok R.wo hx e1, see_ok R.wo hy e2, hc, q μ Hd H _ (Gr.refl μ Hd) R rfl⟩
    · cases e
  · rename_i a j e1 e2
    split at e
    · rename_i hz
      obtain ⟨p1, v1, rfl, h1, r1⟩ := see_lst R.wo hx e1
      refine .inr (.inl ⟨p1, j, v1, rfl, see_ok R.wo hy e2, h1, by omega, by omega, ?_, fun p hp => ?_⟩)
      · rw [r1.len, sizeLine_eq]
        have : a.length * j.toNat ≤ 1000 * 1000 := Nat.mul_le_mul hz.2.2 (by omega)
        omega
      · obtain ⟨g, R', r'⟩ := newL_ok R (r1.repl j.toNat) e hp
        exact q _ _ _ _ g R' r'
    · cases e
  · rename_i a j e1 e2
    split at e
    · rename_i hz
      cases e
      obtain ⟨p1, v1, rfl, h1, r1⟩ := see_tup R.wo hx e1
      refine .inr (.inr ⟨p1, j, v1, rfl, see_ok R.wo hy e2, h1, fun hn => hz.2.2.2 (List.eq_nil_of_length_eq_zero (by rw [← r1.len, hn]; rfl)), by omega, by omega, by rw [r1.len]; omega, fun hj => ?_, fun hj p hp => ?_⟩)
      · subst hj
        rw [show (List.replicate (1 : Int).toNat a).flatten = a by simp] at q
        exact q μ Hd H _ (Gr.refl μ Hd) R (see_flat hx e1)
      · obtain ⟨g, R', r'⟩ := tup_ok R (r1.repl j.toNat) hp
        exact q _ _ _ _ g R' r'
    · cases e
  · cases e

/-! ### items and slices -/
def ixD : Dt → Dt → Option Dt
  | .lst xs, .int i => atI xs i
  | .sq xs, .int i => atI xs i
  | .tup xs, .int i => atI xs i
  | .str s, .int i => if s.length ≤ sizeLine then (atI s.cps.toList i).map fun c => .str ⟨#[c]⟩ else none
  | _, _ => none
def ixF : Vl → Vl → M Vl := fun x y E => match see E.ce x, see E.ce y with
  | some a, some b => (ixD a b).map fun d => (.d d, E)
  | _, _ => none
theorem atI_ok {H : Hp} {ds : List Dt} {vs : List V} {i : Int} {d : Dt} (h : RpA K H ds vs) (e : atI ds i = some d) : ∃ v, atI vs i = some v ∧ Rp K H d v := by
  unfold atI at e ⊢
  rw [h.len]
  cases q : ixN ds.length i with
  | none =>
    rw [q] at e
    cases e
  | some j =>
    rw [q] at e
    exact RpA.at h e
theorem om_ix : OM K (rIx K) ixF := fun {μ Hd H σ E x y vx vy z E'} R hx hy e Q q => by
  unfold ixF at e
  split at e
  · rename_i a b e1 e2
    cases e3 : ixD a b with
    | none =>
      rw [e3] at e
      cases e
    | some d =>
      rw [e3] at e
      cases e
      unfold ixD at e3
      split at e3
      · rename_i xs i
        obtain ⟨p1, v1, rfl, h1, r1⟩ := see_lst R.wo hx e1
        obtain ⟨v, g1, g2⟩ := atI_ok r1 e3
        exact .inl ⟨p1, v1, i, v, rfl, see_ok R.wo hy e2, sq_of h1, g1, q μ Hd H v (Gr.refl μ Hd) R g2⟩
      · rename_i xs i
        obtain ⟨p1, v1, rfl, h1, r1⟩ := see_sq R.wo hx e1
        obtain ⟨v, g1, g2⟩ := atI_ok r1 e3
        exact .inl ⟨p1, v1, i, v, rfl, see_ok R.wo hy e2, h1, g1, q μ Hd H v (Gr.refl μ Hd) R g2⟩
      · rename_i xs i
        obtain ⟨p1, v1, rfl, h1, r1⟩ := see_tup R.wo hx e1
        obtain ⟨v, g1, g2⟩ := atI_ok r1 e3
        exact .inr (.inl ⟨p1, v1, i, v, rfl, see_ok R.wo hy e2, h1, g1, q μ Hd H v (Gr.refl μ Hd) R g2⟩)
      · rename_i s i
        split at e3
        · rename_i hz
          cases e4 : atI s.cps.toList i with
          | none =>
            rw [e4] at e3
            cases e3
          | some c =>
            rw [e4] at e3
            cases e3
            exact .inr (.inr ⟨s, i, c, see_ok R.wo hx e1, see_ok R.wo hy e2, hz, e4, q μ Hd H _ (Gr.refl μ Hd) R rfl⟩)
        · cases e3
      · cases e3
  · cases e
end
section
variable {X : Cx} {a b c e : Expr} {es : List Expr} {ta tb tc te : TE} {ma mb mc m : M Vl} {pos : Pos} {tes : TA} {mes : M (List Vl)} {lo hi : Option Expr}
theorem xix (ha : Ex_ X a ta ma) (hb : Ex_ X b tb mb) (hs : PlainIx b := by intro _ _; rfl) : Ex_ X (.Subscript a b pos) (tOp (rIx X.K) ta tb) (bindM ma fun x => bindM mb (ixF x)) := ⟨pe_ix ix_seq ha.pe hb.pe hs, em_op om_ix ha.em hb.em⟩
structure Ox (X : Cx) (e : Option Expr) (t : TO) (m : M (Option Int)) : Prop where
  po : PO X e t
  om : ∀ {μ : List Addr} {Hd H : Hp} {σ : L2.St} {E : En} {o : Option Int} {E' : En}, Rl X.K μ Hd H σ E → m E = some (o, E') → ∀ Q : Option Int → Hp → Prop, (∀ μ' Hd' H', Gr μ Hd μ' Hd' → Rl X.K μ' Hd' H' σ E' → Q o H') → t σ H Q
theorem onone : Ox X none tNoPart (retM none) := ⟨po_none, fun {μ Hd H σ E o E'} R e Q q => by
  cases e
  exact q μ Hd H (Gr.refl μ Hd) R⟩
def partM (m : M Vl) : M (Option Int) := bindM m fun r => match r with
  | .d (.int i) => retM (some i)
  | _ => failM
theorem osome (h : Ex_ X e te m) : Ox X (some e) (tPart te) (partM m) := ⟨po_some h.pe, fun {μ Hd H σ E o E'} R e Q q => by
  obtain ⟨r, E1, e1, e2⟩ := bindM_some e
  split at e2
  · rename_i i
    cases e2
    exact h.em R e1 _ fun μ1 Hd1 H1 v g1 R1 r1 => ⟨i, r1, q μ1 Hd1 H1 g1 R1⟩
  · cases e2⟩
def cutD (xs : List Dt) (lo hi : Option Int) : List Dt := (xs.drop (HT.sIx xs.length 0 lo)).take (HT.sIx xs.length xs.length hi - HT.sIx xs.length 0 lo)
theorem cut_ok {K : PySem.W.Frag} {H : Hp} {ds : List Dt} {vs : List V} (h : RpA K H ds vs) (lo hi : Option Int) : RpA K H (cutD ds lo hi) (cutV vs lo hi) := by
  unfold cutD cutV
  rw [h.len]
  exact (h.drop _).take _
theorem cut_all {ds : List Dt} {lo hi : Option Int} (h : HT.sIx ds.length 0 lo = 0 ∧ HT.sIx ds.length ds.length hi = ds.length) : cutD ds lo hi = ds := by
  unfold cutD
  rw [h.1, h.2]
  simp
def slF (x : Vl) (lo hi : Option Int) : M Vl := fun E => match see E.ce x with
  | some (.lst xs) => newL (cutD xs lo hi) E
  | some (.tup xs) => some (.d (.tup (cutD xs lo hi)), E)
  | some (.str s) => if s.length ≤ sizeLine then some (.d (.str (cutS s lo hi)), E) else none
  | _ => none
theorem xsl {p2 : Pos} (ha : Ex_ X a ta ma) {tl th : TO} {ml mh : M (Option Int)} (hl : Ox X lo tl ml) (hh : Ox X hi th mh) :
    Ex_ X (.Subscript a (.Slice lo hi none p2) pos) (tSl (fun x l h H Q => rSlL X.K x l h H Q ∨ rSlA X.K x l h H Q ∨ rSlS x l h H Q) ta tl th) (bindM ma fun x => bindM ml fun l => bindM mh fun h => slF x l h) :=
  ⟨pe_slice (sl_list.or (sl_tupA.or sl_str)) ha.pe hl.po hh.po, fun {μ Hd H σ E z E'} R e Q q => by
    obtain ⟨x, E1, e1, e⟩ := bindM_some e
    obtain ⟨l, E2, e2, e⟩ := bindM_some e
    obtain ⟨h, E3, e3, e⟩ := bindM_some e
    refine ha.em R e1 _ fun μ1 Hd1 H1 v g1 R1 r1 => ?_
    refine hl.om R1 e2 _ fun μ2 Hd2 H2 g2 R2 => ?_
    refine hh.om R2 e3 _ fun μ3 Hd3 H3 g3 R3 => ?_
    have r3 := Rv.gr (g2.trans g3) r1
    have g0 := (g1.trans g2).trans g3
    unfold slF at e
    split at e
    · rename_i xs e4
      obtain ⟨p1, v1, rfl, h1, r4⟩ := see_lst R3.wo r3 e4
      refine .inl ⟨p1, v1, rfl, sq_of h1, fun p hp => ?_⟩
      obtain ⟨g, R', r'⟩ := newL_ok R3 (cut_ok r4 l h) e hp
      exact q _ _ _ _ (g0.trans g) R' r'
    · rename_i xs e4
      cases e
      obtain ⟨p1, v1, rfl, h1, r4⟩ := see_tup R3.wo r3 e4
      refine .inr (.inl ⟨p1, v1, rfl, h1, fun hw => ?_, fun hw p hp => ?_⟩)
      · rw [r4.len] at hw
        rw [cut_all hw] at q
        exact q _ _ _ _ g0 R3 (see_flat r3 e4)
      · obtain ⟨g, R', r'⟩ := tup_ok R3 (cut_ok r4 l h) hp
        exact q _ _ _ _ (g0.trans g) R' r'
    · rename_i s e4
      split at e
      · rename_i hz
        cases e
        exact .inr (.inr ⟨s, see_ok R3.wo r3 e4, hz, q _ _ _ _ g0 R3 rfl⟩)
      · cases e
    · cases e⟩
/-! ### calls of built-ins -/
theorem em_cb {K : PySem.W.Frag} {r : List V → Hp → VK → Prop} {f : List Vl → M Vl} {ta : TA} {ma : M (List Vl)} (hf : CM K r f) (ha : AM K ta ma) : EM K (tCB r ta) (bindM ma f) := fun {μ Hd H σ E z E'} R e Q q => by
  obtain ⟨rs, E1, e1, e2⟩ := bindM_some e
  exact ha R e1 _ fun μ1 Hd1 H1 vs g1 R1 r1 => hf R1 r1 e2 Q fun μ2 Hd2 H2 v g2 R2 r2 => q μ2 Hd2 H2 v (g1.trans g2) R2 r2
variable {x : Str} {p : Pos} {id T : String} {r : List V → Hp → VK → Prop} {f : List Vl → M Vl}
theorem xblt (hc : CallR X (.builtin id) r) (hf : CM X.K r f) (hm : X.mg x = none) (hv : bootBuiltins x = some (.builtin id)) (ha : Ax X (e :: es) tes mes) (hg : Gl X x := by rfl) (hn : x ≠ "__name__" := by decide) (hdb : (x == ("__debug__" : Str)) = false := by decide)
    (he : starEach (e :: es) X.env = (false, eval e X.env) :: starEach es X.env := by rfl) (hpl : (backTo pos (starEach es X.env)).any (·.1) = false := by rfl) : Ex_ X (.Call (.Name x p) (e :: es) [] pos) (tCB r tes) (bindM mes f) := ⟨pe_callB hc hg hm hv ha.pa hn hdb he hpl, em_cb hf ha.am⟩
theorem xbty (hc : CallR X (.type T) r) (hf : CM X.K r f) (hm : X.mg x = none) (hv : bootBuiltins x = some (.type T)) (ha : Ax X (e :: es) tes mes) (hg : Gl X x := by rfl) (hn : x ≠ "__name__" := by decide) (hdb : (x == ("__debug__" : Str)) = false := by decide)
    (he : starEach (e :: es) X.env = (false, eval e X.env) :: starEach es X.env := by rfl) (hpl : (backTo pos (starEach es X.env)).any (·.1) = false := by rfl) : Ex_ X (.Call (.Name x p) (e :: es) [] pos) (tCB r tes) (bindM mes f) := ⟨pe_callTy hc hg hm hv ha.pa hn hdb he hpl, em_cb hf ha.am⟩
/-- one value looked at -/
def fn1 (f : Dt → Option Dt) : List Vl → M Vl := fun xs E => match xs with
  | [x] => match see E.ce x with
    | some a => (f a).map fun d => (.d d, E)
    | none => none
  | _ => none
theorem fn1_some {f : Dt → Option Dt} {xs : List Vl} {z : Vl} {E E' : En} (h : fn1 f xs E = some (z, E')) : ∃ x a d, xs = [x] ∧ see E.ce x = some a ∧ f a = some d ∧ z = .d d ∧ E' = E := by
  match xs with
  | [] => cases h
  | [x] =>
    have h : (match see E.ce x with
      | some a => (f a).map fun d => (Vl.d d, E)
      | none => none) = some (z, E') := h
    cases e1 : see E.ce x with
    | none =>
      rw [e1] at h
      cases h
    | some a =>
      rw [e1] at h
      cases q : f a with
      | none =>
        simp [q] at h
      | some d =>
        simp only [q, Option.map_some, Option.some.injEq, Prod.mk.injEq] at h
        obtain ⟨rfl, rfl⟩ := h
        exact ⟨x, a, d, rfl, e1, q, rfl, rfl⟩
  | _ :: _ :: _ => cases h
theorem RvA.one {K : PySem.W.Frag} {μ : List Addr} {Hd : Hp} {x : Vl} {vs : List V} (h : RvA K μ Hd [x] vs) : ∃ v, vs = [v] ∧ Rv K μ Hd x v := by
  cases h with
  | cons h1 t =>
    cases t
    exact ⟨_, rfl, h1⟩
theorem RvA.two {K : PySem.W.Frag} {μ : List Addr} {Hd : Hp} {x y : Vl} {vs : List V} (h : RvA K μ Hd [x, y] vs) : ∃ v w, vs = [v, w] ∧ Rv K μ Hd x v ∧ Rv K μ Hd y w := by
  cases h with
  | cons h1 t =>
    cases t with
    | cons h2 t =>
      cases t
      exact ⟨_, _, rfl, h1, h2⟩
theorem cm_fn1 {K : PySem.W.Frag} {f : Dt → Option Dt} (h : ∀ (H : Hp) (a d : Dt) (v : V), Rp K H a v → f a = some d → ∀ Q : VK, (∀ w, (∀ H', Rp K H' d w) → Q w H) → r [v] H Q) : CM K r (fn1 f) := fun {μ Hd H σ E xs vs z E'} R hx e Q q => by
  obtain ⟨x, a, d, rfl, e1, e2, rfl, rfl⟩ := fn1_some e
  obtain ⟨v, rfl, h1⟩ := hx.one
  exact h H a d v (see_ok R.wo h1 e1) e2 Q fun w hw => q μ Hd H w (Gr.refl μ Hd) R (hw Hd)
def lenD : Dt → Option Dt
  | .str s => if s.length ≤ sizeLine then some (.int (s.length : Int)) else none
  | .lst xs => some (.int (xs.length : Int))
  | .sq xs => some (.int (xs.length : Int))
  | .tup xs => some (.int (xs.length : Int))
  | _ => none
theorem cm_len {K : PySem.W.Frag} : CM K (rLenU K) (fn1 lenD) := cm_fn1 fun H a d v hv e Q q => by
  unfold lenD at e
  split at e
  · rename_i s
    split at e
    · rename_i hz
      cases e
      cases (show v = .str s from hv)
      exact ⟨_, s.length, rfl, ⟨hz, rfl⟩, q _ fun _ => rfl⟩
    · cases e
  · cases e
    obtain ⟨p, vs, rfl, h1, h2⟩ := hv
    exact ⟨_, vs.length, rfl, .inl ⟨vs, sq_of h1, rfl⟩, by rw [h2.len]; exact q _ fun _ => rfl⟩
  · cases e
    obtain ⟨p, vs, rfl, h1, h2⟩ := hv
    exact ⟨_, vs.length, rfl, .inl ⟨vs, h1, rfl⟩, by rw [h2.len]; exact q _ fun _ => rfl⟩
  · cases e
    obtain ⟨p, vs, rfl, h1, h2⟩ := hv
    exact ⟨_, vs.length, rfl, .inr ⟨vs, h1, rfl⟩, by rw [h2.len]; exact q _ fun _ => rfl⟩
  · cases e
theorem xlen (hm : X.mg "len" = none) (ha : Ax X (e :: es) tes mes) (hg : Gl X "len" := by rfl) (he : starEach (e :: es) X.env = (false, eval e X.env) :: starEach es X.env := by rfl) (hpl : (backTo pos (starEach es X.env)).any (·.1) = false := by rfl) :
    Ex_ X (.Call (.Name "len" p) (e :: es) [] pos) (tCB (rLenU X.K) tes) (bindM mes (fn1 lenD)) := xblt call_lenU cm_len hm PySem.boot_len ha hg (by decide) (by decide) he hpl
def absD : Dt → Option Dt
  | .int i => some (.int (if i < 0 then -i else i))
  | _ => none
theorem cm_abs {K : PySem.W.Frag} : CM K rAbsU (fn1 absD) := cm_fn1 fun H a d v hv e Q q => by
  unfold absD at e
  split at e
  · rename_i i
    cases e
    cases (show v = .int i from hv)
    exact ⟨i, rfl, q _ fun _ => rfl⟩
  · cases e
def intD : Dt → Option Dt
  | .int i => some (.int i)
  | .bl b => some (.int (if b then 1 else 0))
  | _ => none
theorem cm_int {K : PySem.W.Frag} : CM K rIntU (fn1 intD) := cm_fn1 fun H a d v hv e Q q => by
  unfold intD at e
  split at e
  · rename_i i
    cases e
    cases (show v = .int i from hv)
    exact .inl ⟨i, rfl, q _ fun _ => rfl⟩
  · rename_i b
    cases e
    cases (show v = .bl b from hv)
    exact .inr ⟨b, rfl, q _ fun _ => rfl⟩
  · cases e
def blsD : List Dt → Option (List Bool)
  | [] => some []
  | .bl b :: ds => (blsD ds).map (b :: ·)
  | _ => none
theorem bls_ok {K : PySem.W.Frag} {H : Hp} : ∀ {ds : List Dt} {vs : List V} {bs : List Bool}, RpA K H ds vs → blsD ds = some bs → vs = bs.map V.bl
  | [], vs, bs, h, e => by
    cases e
    exact h
  | .bl b :: ds, vs, bs, h, e => by
    obtain ⟨x, r, rfl, h2, h3⟩ := h
    have e : (blsD ds).map (b :: ·) = some bs := e
    cases q : blsD ds with
    | none =>
      rw [q] at e
      cases e
    | some cs =>
      rw [q] at e
      cases e
      rw [show x = V.bl b from h2, bls_ok h3 q]
      rfl
  | .non :: _, _, _, _, e => by cases e
  | .int _ :: _, _, _, _, e => by cases e
  | .str _ :: _, _, _, _, e => by cases e
  | .lst _ :: _, _, _, _, e => by cases e
  | .sq _ :: _, _, _, _, e => by cases e
  | .tup _ :: _, _, _, _, e => by cases e
  | .obj _ _ _ :: _, _, _, _, e => by cases e
  | .dic _ _ :: _, _, _, _, e => by cases e
  | .exc _ _ _ :: _, _, _, _, e => by cases e
def allD : Dt → Option Dt
  | .lst xs => (blsD xs).map fun bs => .bl (bs.all fun b => b)
  | _ => none
def anyD : Dt → Option Dt
  | .lst xs => (blsD xs).map fun bs => .bl (bs.any fun b => b)
  | _ => none
theorem cm_all {K : PySem.W.Frag} : CM K (rAll K) (fn1 allD) := cm_fn1 fun H a d v hv e Q q => by
  unfold allD at e
  split at e
  · rename_i xs
    cases e1 : blsD xs with
    | none =>
      rw [e1] at e
      cases e
    | some bs =>
      rw [e1] at e
      cases e
      obtain ⟨p, vs, rfl, h1, h2⟩ := hv
      have := bls_ok h2 e1
      subst this
      exact ⟨p, bs, rfl, sq_of h1, q _ fun _ => rfl⟩
  · cases e
theorem cm_any {K : PySem.W.Frag} : CM K (rAny K) (fn1 anyD) := cm_fn1 fun H a d v hv e Q q => by
  unfold anyD at e
  split at e
  · rename_i xs
    cases e1 : blsD xs with
    | none =>
      rw [e1] at e
      cases e
    | some bs =>
      rw [e1] at e
      cases e
      obtain ⟨p, vs, rfl, h1, h2⟩ := hv
      have := bls_ok h2 e1
      subst this
      exact ⟨p, bs, rfl, sq_of h1, q _ fun _ => rfl⟩
  · cases e
def tupleF : List Vl → M Vl := fun xs E => match xs with
  | [x] => match (see E.ce x).bind itemsD with
    | some ds => some (.d (.tup ds), E)
    | none => none
  | _ => none
theorem cm_tuple {K : PySem.W.Frag} : CM K (rTupU K) tupleF := fun {μ Hd H σ E xs vs z E'} R hx e Q q => by
  unfold tupleF at e
  split at e
  · rename_i x
    split at e
    · rename_i ds e1
      cases e
      obtain ⟨v, rfl, h1⟩ := hx.one
      cases q1 : see E.ce x with
      | none =>
        rw [q1] at e1
        cases e1
      | some d =>
        rw [q1] at e1
        cases d with
        | lst ys =>
          cases e1
          obtain ⟨a, us, rfl, h2, h3⟩ := see_lst R.wo h1 q1
          refine ⟨a, us, rfl, .inl ⟨sq_of h2, fun l hl => ?_⟩⟩
          obtain ⟨g, R', r'⟩ := tup_ok R h3 hl
          exact q _ _ _ _ g R' r'
        | sq ys =>
          cases e1
          obtain ⟨a, us, rfl, h2, h3⟩ := see_sq R.wo h1 q1
          refine ⟨a, us, rfl, .inl ⟨h2, fun l hl => ?_⟩⟩
          obtain ⟨g, R', r'⟩ := tup_ok R h3 hl
          exact q _ _ _ _ g R' r'
        | tup ys =>
          cases e1
          obtain ⟨a, us, rfl, h2, h3⟩ := see_tup R.wo h1 q1
          exact ⟨a, us, rfl, .inr ⟨h2, q μ Hd H _ (Gr.refl μ Hd) R (see_flat h1 q1)⟩⟩
        | _ => cases e1
    · cases e
  · cases e
end
end Hk
/-! Hk5: comprehensions, a list's methods, isinstance. -/
namespace Hk
open PySem PySem.Spec PyProof.Rows L2 Evl

/-! ### slots forgotten and brought back -/
def wipeO (sl : List (Option Vl)) : List Nat → List (Option Vl)
  | [] => sl
  | v :: vs => (wipeO sl vs).set v none
def wipeE (vs : List Nat) (E : En) : En := ⟨wipeO E.sl vs, E.ce⟩
def bring (sl0 sl : List (Option Vl)) : List Nat → List (Option Vl)
  | [] => sl
  | v :: vs => (bring sl0 sl vs).set v (sl0[v]?.getD none)
section
variable {K : PySem.W.Frag} {μ : List Addr} {Hd H : Hp} {σ : L2.St}
theorem Sl.wipe {sl : List (Option Vl)} (h : Sl K μ Hd σ sl) : ∀ vs : List Nat, Sl K μ Hd (L2.wipe σ vs) (wipeO sl vs)
  | [] => h
  | v :: vs => (Sl.wipe h vs).wipe1 v
theorem wipeO_len (sl : List (Option Vl)) : ∀ vs : List Nat, (wipeO sl vs).length = sl.length
  | [] => rfl
  | v :: vs => by
    unfold wipeO
    rw [List.length_set, wipeO_len sl vs]
theorem bring_len (sl0 sl : List (Option Vl)) : ∀ vs : List Nat, (bring sl0 sl vs).length = sl.length
  | [] => rfl
  | v :: vs => by
    unfold bring
    rw [List.length_set, bring_len sl0 sl vs]
theorem wipe_out {i : Nat} : ∀ {vs : List Nat}, i ∉ vs → (L2.wipe σ vs)[i]? = σ[i]?
  | [], _ => rfl
  | v :: vs, h => by
    unfold L2.wipe
    rw [List.getElem?_set_ne (fun e => h (by rw [e]; exact List.mem_cons_self)), wipe_out fun m => h (List.mem_cons_of_mem _ m)]
theorem wipeO_out {sl : List (Option Vl)} {i : Nat} : ∀ {vs : List Nat}, i ∉ vs → (wipeO sl vs)[i]? = sl[i]?
  | [], _ => rfl
  | v :: vs, h => by
    unfold wipeO
    rw [List.getElem?_set_ne (fun e => h (by rw [e]; exact List.mem_cons_self)), wipeO_out fun m => h (List.mem_cons_of_mem _ m)]
theorem bring_out {sl0 sl : List (Option Vl)} {i : Nat} : ∀ {vs : List Nat}, i ∉ vs → (bring sl0 sl vs)[i]? = sl[i]?
  | [], _ => rfl
  | v :: vs, h => by
    unfold bring
    rw [List.getElem?_set_ne (fun e => h (by rw [e]; exact List.mem_cons_self)), bring_out fun m => h (List.mem_cons_of_mem _ m)]
theorem bring_in {sl0 sl : List (Option Vl)} {i : Nat} {r : Vl} : ∀ {vs : List Nat}, i ∈ vs → (bring sl0 sl vs)[i]? = some (some r) → sl0[i]? = some (some r)
  | v :: vs, hm, h => by
    unfold bring at h
    rw [List.getElem?_set] at h
    by_cases hv : v = i
    · subst hv
      rw [if_pos rfl] at h
      split at h
      · have h := Option.some.inj h
        cases q : sl0[v]? with
        | none =>
          rw [q] at h
          cases h
        | some o =>
          rw [q] at h
          have h : o = some r := h
          rw [h]
      · cases h
    · rw [if_neg hv] at h
      rcases List.mem_cons.mp hm with e | hm
      · exact absurd e.symm hv
      · exact bring_in hm h
theorem Sl.bring {sl0 sl : List (Option Vl)} {vs : List Nat} (h0 : Sl K μ Hd σ sl0) (h : Sl K μ Hd (L2.wipe σ vs) (wipeO sl vs)) : Sl K μ Hd σ (bring sl0 sl vs) := by
  refine ⟨by rw [bring_len, ← wipeO_len sl vs, ← h.1, L2.wipe_length], fun i r e => ?_⟩
  by_cases hm : i ∈ vs
  · exact h0.2 i r (bring_in hm e)
  · rw [bring_out hm] at e
    obtain ⟨v, h1, h2⟩ := h.2 i r (by rw [wipeO_out hm]; exact e)
    exact ⟨v, by rw [wipe_out hm] at h1; exact h1, h2⟩
end
/-- a target that stores to those slots alone -/
def GcM (K : PySem.W.Frag) (vs : List Nat) (g : TG) (f : Vl → En → Option En) : Prop := ∀ {μ : List Addr} {Hd H : Hp} {σ : L2.St} {E E' : En} {r : Vl} {v : V}, Rl K μ Hd H σ E → Rv K μ Hd r v → f r E = some E' → ∀ Q : L2.St → Hp → Prop,
  (∀ μ' Hd' H' σ', Gr μ Hd μ' Hd' → Rl K μ' Hd' H' σ' E' → L2.wipe σ' vs = L2.wipe σ vs → Q σ' H') → g v σ H Q
theorem wipe_set {σ : L2.St} {o : Option V} {i : Nat} : ∀ {vs : List Nat}, i ∈ vs → L2.wipe (σ.set i o) vs = L2.wipe σ vs
  | v :: vs, hm => by
    unfold L2.wipe
    by_cases hv : v = i
    · subst hv
      by_cases h2 : v ∈ vs
      · rw [wipe_set h2]
      · have : ∀ (us : List Nat), v ∉ us → (L2.wipe (σ.set v o) us) = (L2.wipe σ us).set v o := by
          intro us
          induction us with
          | nil => intro _; rfl
          | cons u us ih =>
            intro hu
            unfold L2.wipe
            rw [ih fun m => hu (List.mem_cons_of_mem _ m), List.set_comm _ _ (fun e => hu (by rw [e]; exact List.mem_cons_self))]
        rw [this vs h2, List.set_set]
    · rcases List.mem_cons.mp hm with e | hm
      · exact absurd e.symm hv
      · rw [wipe_set hm]
theorem gcm_name {K : PySem.W.Frag} {i : Nat} {vs : List Nat} (hi : i ∈ vs) : GcM K vs (gName i) (nameG i) := fun {μ Hd H σ E E' r v} R h e Q q => by
  cases e
  exact q μ Hd H _ (Gr.refl μ Hd) (R.setE i h) (wipe_set hi)
def GcsM (K : PySem.W.Frag) (us : List Nat) (t : TGs) (gs : List (Vl → En → Option En)) : Prop := ∀ {μ : List Addr} {Hd H : Hp} {σ : L2.St} {E E' : En} {ds : List Dt} {vs : List V}, Rl K μ Hd H σ E → RpA K Hd ds vs → gsL gs ds E = some E' → ∀ Q : L2.St → Hp → Prop,
  (∀ μ' Hd' H' σ', Gr μ Hd μ' Hd' → Rl K μ' Hd' H' σ' E' → L2.wipe σ' us = L2.wipe σ us → Q σ' H') → t vs σ H Q
theorem gcsm_nil {K : PySem.W.Frag} {us : List Nat} : GcsM K us gNil [] := fun {μ Hd H σ E E' ds vs} R h e Q q => by
  cases ds with
  | nil =>
    cases e
    exact ⟨h, q μ Hd H σ (Gr.refl μ Hd) R rfl⟩
  | cons d ds => cases e
theorem gcsm_cons {K : PySem.W.Frag} {us : List Nat} {t : TG} {u : TGs} {g : Vl → En → Option En} {gs : List (Vl → En → Option En)} (h1 : GcM K us t g) (h2 : GcsM K us u gs) : GcsM K us (gCons t u) (g :: gs) := fun {μ Hd H σ E E' ds vs} R h e Q q => by
  cases ds with
  | nil => cases e
  | cons d ds =>
    unfold gsL at e
    cases q1 : g (.d d) E with
    | none =>
      rw [q1] at e
      cases e
    | some E1 =>
      rw [q1] at e
      obtain ⟨x, r, rfl, p1, p2⟩ := h
      refine ⟨x, r, rfl, h1 R (r := .d d) p1 q1 _ fun μ1 Hd1 H1 σ1 g1 R1 w1 => ?_⟩
      exact h2 R1 (RpA.ex g1.ex _ _ p2) e Q fun μ2 Hd2 H2 σ2 g2 R2 w2 => q μ2 Hd2 H2 σ2 (g1.trans g2) R2 (w2.trans w1)
theorem gcm_tup {K : PySem.W.Frag} {us : List Nat} {t : TGs} {gs : List (Vl → En → Option En)} {n : Nat} (hn : gs.length = n) (h : GcsM K us t gs) : GcM K us (gTup K n t) (tupG gs) := fun {μ Hd H σ E E' r v} R hv e Q q => by
  unfold tupG at e
  split at e
  · rename_i ds
    obtain ⟨a, vs, rfl, h2, h3⟩ := hv
    exact ⟨a, vs, rfl, exs_t R.wo.ex h2, by rw [h3.len, gsL_len e, hn], h R h3 e Q q⟩
  · cases e
theorem wipe_wipe {σ : L2.St} {vs : List Nat} : L2.wipe (L2.wipe σ vs) vs = L2.wipe σ vs := by
  have h : ∀ us : List Nat, (∀ u ∈ us, u ∈ vs) → L2.wipe (L2.wipe σ us) vs = L2.wipe σ vs := by
    intro us
    induction us with
    | nil => intro _; rfl
    | cons u us ih =>
      intro hu
      show L2.wipe ((L2.wipe σ us).set u none) vs = _
      rw [wipe_set (hu u List.mem_cons_self)]
      exact ih fun x hx => hu x (List.mem_cons_of_mem _ hx)
  exact h vs fun _ h => h
/-! ### [e for x in xs if t] -/
def compL (own : List Nat) (k : Nat) (g : Vl → En → Option En) (t : M Bool) (m : M Vl) : List Dt → En → Option En
  | [], E => some E
  | d :: ds, E => match g (.d d) (wipeE own E) with
    | some E1 => match t E1 with
      | some (true, E2) => match bindM m fzM E2 with
        | some (x, E4) => match E4.ce[k]? with
          | some (.lst acc) => if acc.length < 100000 then compL own k g t m ds ⟨E4.sl, E4.ce.set k (.lst (acc ++ [x]))⟩ else none
          | _ => none
        | none => none
      | some (false, E2) => compL own k g t m ds E2
      | none => none
    | none => none
def compM (own : List Nat) (i : M (List Dt)) (g : Vl → En → Option En) (t : M Bool) (m : M Vl) : M Vl := fun E => match i E with
  | some (ds, E1) => match compL own E1.ce.length g t m ds ⟨E1.sl, E1.ce ++ [.lst []]⟩ with
    | some E2 => some (.c E1.ce.length, ⟨bring E1.sl E2.sl own, E2.ce⟩)
    | none => none
  | none => none
theorem comp_at {K : PySem.W.Frag} {own : List Nat} {g : TG} {gm : Vl → En → Option En} {tt : TT} {mt : M Bool} {te : TE} {m : M Vl} (hg : GcM K own g gm) (ht : TM K tt mt) (he : EM K te m) {μ1 : List Addr} {Hd1 H1 : Hp} {σ : L2.St} {E1 E2 : En} {J : It} {ds : List Dt} (R1 : Rl K μ1 Hd1 H1 σ E1) (sv : Serves J K Hd1 ds)
    (q2 : compL own E1.ce.length gm mt m ds ⟨E1.sl, E1.ce ++ [.lst []]⟩ = some E2) (Q : VK) (q : ∀ μ' Hd' H' v, Gr μ1 Hd1 μ' Hd' → Rl K μ' Hd' H' σ ⟨bring E1.sl E2.sl own, E2.ce⟩ → Rv K μ' Hd' (.c E1.ce.length) v → Q v H') : tLc (fun σ H R => R J H) g tt te own σ H1 Q := by
  intro D hD
  obtain ⟨g2, R2, r2⟩ := R1.newC (xs := []) (vs := []) hD rfl
  have hk : (μ1 ++ [D])[E1.ce.length]? = some D := by
    rw [← R1.wo.len]
    simp
  refine ⟨fun i k H' => ∃ μ' Hd' E', Gr (μ1 ++ [D]) Hd1 μ' Hd' ∧ Rl K μ' Hd' H' (L2.wipe σ own) (wipeE own E') ∧ k = ds.length - i ∧ compL own E1.ce.length gm mt m (ds.drop i) E' = some E2,
    ⟨_, μ1 ++ [D], Hd1, ⟨E1.sl, E1.ce ++ [Ce.lst []]⟩, Gr.refl _ _, ⟨R2.wo, R2.sl.wipe own⟩, rfl, q2⟩, fun i k H' hw => ?_⟩
  obtain ⟨μ', Hd', E3, g3, R3, ek, q3⟩ := hw
  cases hd : ds.drop i with
  | nil =>
    rw [hd] at q3
    cases q3
    have hl : ds.length ≤ i := by
      have := congrArg List.length hd
      rw [List.length_drop] at this
      simp at this
      omega
    refine .inl ⟨(sv Hd' H' i g3.ex R3.wo.ex).1 hl, q μ' Hd' H' _ (g2.trans g3) ⟨R3.wo, ?_⟩ ⟨D, g3.pre _ _ hk, rfl⟩⟩
    exact Sl.bring ((R1.sl.gr g2).gr g3) R3.sl
  | cons x rest =>
    rw [hd] at q3
    obtain ⟨hx, hr⟩ := drop_cons hd
    have hl : i < ds.length := (List.getElem?_eq_some_iff.mp hx).1
    obtain ⟨s1, s2⟩ := sv.new R3 g3.ex hx
    refine .inr ⟨s1, fun H2 => ∃ m', m' < k ∧ ∃ μ2 Hd2 E4, Gr (μ1 ++ [D]) Hd1 μ2 Hd2 ∧ Rl K μ2 Hd2 H2 (L2.wipe σ own) (wipeE own E4) ∧ m' = ds.length - (i + 1) ∧ compL own E1.ce.length gm mt m (ds.drop (i + 1)) E4 = some E2, fun _ h => h, fun v H3 hy => ?_⟩
    obtain ⟨Hd4, g4, R4, r4⟩ := s2 v H3 hy
    unfold compL at q3
    cases q4 : gm (.d x) (wipeE own E3) with
    | none =>
      rw [q4] at q3
      cases q3
    | some E5 =>
      rw [q4] at q3
      refine hg R4 (r := .d x) r4 q4 _ fun μ5 Hd5 H5 σ5 g5 R5 w5 => ⟨w5.trans (by rw [wipe_wipe]), ?_⟩
      have gg := (g3.trans g4).trans g5
      cases q5 : mt E5 with
      | none =>
        simp only [q5] at q3
        cases q3
      | some p =>
        obtain ⟨b, E6⟩ := p
        simp only [q5] at q3
        refine ht R5 q5 _ fun μ6 Hd6 H6 g6 R6 => ?_
        cases b with
        | false =>
          show ∃ m', _
          refine ⟨ds.length - (i + 1), by omega, μ6, Hd6, E6, gg.trans g6, ⟨R6.wo, ?_⟩, rfl, by rw [hr]; exact q3⟩
          have := R6.sl.wipe own
          rw [w5, wipe_wipe] at this
          exact this
        | true =>
          show te σ5 H6 _
          cases q6 : bindM m fzM E6 with
          | none =>
            simp only [q6] at q3
            cases q3
          | some p =>
            obtain ⟨y, E7⟩ := p
            simp only [q6] at q3
            obtain ⟨z, E8, e8, e9⟩ := bindM_some q6
            cases q7 : E7.ce[E1.ce.length]? with
            | none =>
              simp only [q7] at q3
              cases q3
            | some c =>
              cases c with
              | dead =>
                simp only [q7] at q3
                cases q3
              | pin o =>
                simp only [q7] at q3
                cases q3
              | ins C ns ds =>
                simp only [q7] at q3
                cases q3
              | dic ks ds =>
                simp only [q7] at q3
                cases q3
              | dit ks ds =>
                simp only [q7] at q3
                cases q3
              | lkd ks ds =>
                simp only [q7] at q3
                cases q3
              | tbl P q =>
                simp only [q7] at q3
                cases q3
              | tr t0 =>
                simp only [q7] at q3
                cases q3
              | sub k0 p0 =>
                simp only [q7] at q3
                cases q3
              | lst acc =>
                simp only [q7] at q3
                split at q3
                · rename_i hz
                  refine he R6 e8 _ fun μ7 Hd7 H7 w g7 R7 r7 => ?_
                  obtain ⟨Hd8, g8, R8, r8⟩ := fzM_ok R7 r7 e9
                  have gall := ((gg.trans g6).trans g7).trans g8
                  have hD8 := gall.pre _ _ hk
                  obtain ⟨c1, vs, c2, c3⟩ := R8.wo.lst q7 hD8
                  refine ⟨vs, c2, by rw [c3.len]; exact sz_lt hz, ds.length - (i + 1), by omega, μ7, Hd8, _, gall, ⟨?_, ?_⟩, rfl, by rw [hr]; exact q3⟩
                  · exact (R8.setC q7 hD8 (c3.app (RpA.one r8))).wo
                  · have := R8.sl.wipe own
                    rw [w5, wipe_wipe] at this
                    exact this
                · cases q3
theorem em_comp {K : PySem.W.Frag} {own : List Nat} {wi : TI} {mi : M (List Dt)} {g : TG} {gm : Vl → En → Option En} {tt : TT} {mt : M Bool} {te : TE} {m : M Vl} (hi : IM K wi mi) (hg : GcM K own g gm) (ht : TM K tt mt) (he : EM K te m) : EM K (tLc wi g tt te own) (compM own mi gm mt m) := fun {μ Hd H σ E r E'} R e Q q => by
  unfold compM at e
  cases q1 : mi E with
  | none =>
    rw [q1] at e
    cases e
  | some p =>
    obtain ⟨ds, E1⟩ := p
    rw [q1] at e
    have e : (match compL own E1.ce.length gm mt m ds ⟨E1.sl, E1.ce ++ [.lst []]⟩ with
    | some E2 => some (Vl.c E1.ce.length, (⟨bring E1.sl E2.sl own, E2.ce⟩ : En))
    | none => none) = some (r, E') := e
    cases q2 : compL own E1.ce.length gm mt m ds ⟨E1.sl, E1.ce ++ [.lst []]⟩ with
    | none =>
      rw [q2] at e
      cases e
    | some E2 =>
      rw [q2] at e
      cases e
      exact hi R q1 _ fun μ1 Hd1 H1 J g1 R1 sv => comp_at hg ht he R1 sv q2 Q fun μ' Hd' H' v g2 R2 r2 => q μ' Hd' H' v (g1.trans g2) R2 r2
section
variable {X : Cx} {elt tg iter e a o : Expr} {es ifs : List Expr} {te ta to : TE} {m ma mo : M Vl} {tes : TA} {mes : M (List Vl)} {pos apos cpos : Pos} {name : Str}
structure Px (X : Cx) (ifs : List Expr) (tt : TT) (m : M Bool) : Prop where
  pt : PTs X ifs tt
  tm : TM X.K tt m
theorem pnil : Px X [] tYes (retM true) := ⟨pts_nil, fun {μ Hd H σ E b E'} R e Q q => by
  cases e
  exact q μ Hd H (Gr.refl μ Hd) R⟩
theorem pone {tt : TT} {mt : M Bool} (h : Tx X a tt mt) : Px X [a] tt mt := ⟨pts_one h.pt, h.tm⟩
structure Gc (X : Cx) (own : List Nat) (tg : Expr) (g : TG) (f : Vl → En → Option En) : Prop where
  pg : PG X tg g
  gm : GcM X.K own g f
theorem gcname (i : Nat) {x : Str} {vs : List Nat} (hm : i ∈ vs) (hN : X.N.Nodup) (hi : X.N[i]? = some x := by rfl) (hx : Loc X.env.scope x := by first | exact Or.inl rfl | exact Or.inr rfl) (hf : X.fn x = true ∨ X.env.scope.names.lookup x = some .local := by first | exact .inl rfl | exact .inr rfl) :
    Gc X vs (.Name x pos) (gName i) (nameG i) := ⟨pg_name hN hi hx hf, gcm_name hm⟩
theorem xcomp {scope : Scope} {own : List (Str × Nat)} {wi : TI} {mi : M (List Dt)} {g : TG} {gm : Vl → En → Option En} {tt : TT} {mt : M Bool} (hc : X.calm = true) (hN : X.N.Nodup) (hi : Ix_ X tg iter wi mi) (ok : BlkOk X.N X.env.scope scope own)
    (hg : ∀ (s : Shared) (H : Hp) (C : Addr) (cl : List (Str × Addr)) (fp : List Addr), Gc (X.blk s H scope (compEnvC scope cl C X.env) fp) (own.map (·.2)) tg g gm)
    (ht : ∀ (s : Shared) (H : Hp) (C : Addr) (cl : List (Str × Addr)) (fp : List Addr), Px (X.blk s H scope (compEnvC scope cl C X.env) fp) ifs tt mt)
    (he : ∀ (s : Shared) (H : Hp) (C : Addr) (cl : List (Str × Addr)) (fp : List Addr), Ex_ (X.blk s H scope (compEnvC scope cl C X.env) fp) elt te m) (hs : ∀ x, foldedSetIterable iter X.env x = pure x := by intro _; rfl) :
    Ex_ X (.ListComp elt [⟨tg, iter, ifs, 0⟩] scope pos) (tLc wi g tt te (own.map (·.2))) (compM (own.map (·.2)) mi gm mt m) :=
  ⟨pe_lc hc hN hi.pi ok (fun s H C cl fp => (hg s H C cl fp).pg) (fun s H C cl fp => (ht s H C cl fp).pt) (fun s H C cl fp => (he s H C cl fp).pe) hs,
   em_comp hi.im (hg X.s_0 X.H_0 0 [] []).gm (ht X.s_0 X.H_0 0 [] []).tm (he X.s_0 X.H_0 0 [] []).em⟩
/-- name = [..] -/
theorem ssetC (i : Nat) {y : Str} {py spos : Pos} {scope : Scope} {own : List (Str × Nat)} {wi : TI} {mi : M (List Dt)} {g : TG} {gm : Vl → En → Option En} {tt : TT} {mt : M Bool} (hc : X.calm = true) (hN : X.N.Nodup) (hy : X.N[i]? = some y) (hyl : X.env.scope.names.lookup y = some .local)
    (hsw : swapsWith (.ListComp elt [⟨tg, iter, ifs, 0⟩] scope pos) (some (.Name y py)) spos.line X.env = pure true) (hi : Ix_ X tg iter wi mi) (ok : BlkOk X.N X.env.scope scope own)
    (hg : ∀ (s : Shared) (H : Hp) (C : Addr) (cl : List (Str × Addr)) (fp : List Addr), Gc (X.blk s H scope (compEnvC scope cl C X.env) fp) (own.map (·.2)) tg g gm)
    (ht : ∀ (s : Shared) (H : Hp) (C : Addr) (cl : List (Str × Addr)) (fp : List Addr), Px (X.blk s H scope (compEnvC scope cl C X.env) fp) ifs tt mt)
    (he : ∀ (s : Shared) (H : Hp) (C : Addr) (cl : List (Str × Addr)) (fp : List Addr), Ex_ (X.blk s H scope (compEnvC scope cl C X.env) fp) elt te m) (hs : ∀ x, foldedSetIterable iter X.env x = pure x := by intro _; rfl) :
    Sx X (.Assign [.Name y py] (.ListComp elt [⟨tg, iter, ifs, 0⟩] scope pos) spos) (tAsg (tLc wi g tt te (own.map (·.2))) (gName i)) (setS i (compM (own.map (·.2)) mi gm mt m)) :=
  ⟨ps_setLc hc hN hy hyl hsw hi.pi ok (fun s H C cl fp => (hg s H C cl fp).pg) (fun s H C cl fp => (ht s H C cl fp).pt) (fun s H C cl fp => (he s H C cl fp).pe) hs,
   sm_set i (em_comp hi.im (hg X.s_0 X.H_0 0 [] []).gm (ht X.s_0 X.H_0 0 [] []).tm (he X.s_0 X.H_0 0 [] []).em)⟩
/-- a list is data from here on -/
def fzV (m : M Vl) : M Vl := bindM (bindM m fzM) fun d => retM (.d d)
theorem xfz (h : Ex_ X e te m) : Ex_ X e te (fzV m) := ⟨h.pe, fun {μ Hd H σ E r E'} R q Q k => by
  obtain ⟨d, E1, e1, e2⟩ := bindM_some q
  obtain ⟨r0, E2, e3, e4⟩ := bindM_some e1
  cases e2
  exact h.em R e3 _ fun μ1 Hd1 H1 v g1 R1 r1 => by
    obtain ⟨Hd2, g2, R2, r2⟩ := fzM_ok R1 r1 e4
    exact k μ1 Hd2 H1 v (g1.trans g2) R2 r2⟩
/-! ### methods of a list, of a text -/
def tyB (T : String) : Dt → Bool
  | .lst _ => T == "list"
  | .str _ => T == "str"
  | _ => false
theorem tyB_ok {K : PySem.W.Frag} {H : Hp} {T : String} {d : Dt} {v : V} (h : Rp K H d v) (e : tyB T d = true) : tyV K T v H := by
  unfold tyB at e
  split at e
  · obtain ⟨a, xs, rfl, h2, _⟩ := h
    exact .inl ⟨by simpa using e, xs, sq_of h2⟩
  · rename_i s
    cases (show v = .str s from h)
    exact (by simpa using e : T = "str")
  · cases e
def bmM (T : String) (mo : M Vl) (ma : M (List Vl)) (f : Vl → List Vl → M Vl) : M Vl := bindM mo fun x => fun E => match see E.ce x with
  | some d => if tyB T d = true then (bindM ma fun xs => f x xs) E else none
  | none => none
theorem em_bm {K : PySem.W.Frag} {T : String} {r : V → List V → Hp → VK → Prop} {f : Vl → List Vl → M Vl} {ta : TA} {ma : M (List Vl)} (ho : EM K to mo) (ha : AM K ta ma) (hf : MM K T r f) : EM K (tBM K T r to ta) (bmM T mo ma f) := fun {μ Hd H σ E z E'} R e Q q => by
  obtain ⟨x, E1, e1, e2⟩ := bindM_some e
  split at e2
  · rename_i d e3
    split at e2
    · rename_i e4
      obtain ⟨xs, E2, e5, e6⟩ := bindM_some e2
      refine ho R e1 _ fun μ1 Hd1 H1 v g1 R1 r1 => ⟨tyB_ok (see_ok R1.wo r1 e3) e4, ?_⟩
      refine ha R1 e5 _ fun μ2 Hd2 H2 vs g2 R2 r2 => ?_
      exact hf R2 (Rv.gr g2 r1) r2 e6 Q fun μ3 Hd3 H3 w g3 R3 r3 => q μ3 Hd3 H3 w ((g1.trans g2).trans g3) R3 r3
    · cases e2
  · cases e2
theorem em_bm0 {K : PySem.W.Frag} {T : String} {r : V → List V → Hp → VK → Prop} {f : Vl → List Vl → M Vl} (ho : EM K to mo) (hf : MM K T r f) : EM K (tBM0 K T r to) (bmM T mo (retM []) f) := fun {μ Hd H σ E z E'} R e Q q => by
  obtain ⟨x, E1, e1, e2⟩ := bindM_some e
  split at e2
  · rename_i d e3
    split at e2
    · rename_i e4
      refine ho R e1 _ fun μ1 Hd1 H1 v g1 R1 r1 => ⟨tyB_ok (see_ok R1.wo r1 e3) e4, ?_⟩
      exact hf R1 r1 .nil e2 Q fun μ3 Hd3 H3 w g3 R3 r3 => q μ3 Hd3 H3 w (g1.trans g3) R3 r3
    · cases e2
  · cases e2
/-- the list of a cell, changed -/
def onC (f : List Dt → Option (Dt × List Dt)) : Vl → M Vl
  | .c k => fun E => match E.ce[k]? with
    | some (.lst xs) => match f xs with
      | some (d, ys) => some (.d d, ⟨E.sl, E.ce.set k (.lst ys)⟩)
      | none => none
    | _ => none
  | _ => failM
theorem onC_some {f : List Dt → Option (Dt × List Dt)} {x z : Vl} {E E' : En} (h : onC f x E = some (z, E')) : ∃ k xs d ys, x = .c k ∧ E.ce[k]? = some (.lst xs) ∧ f xs = some (d, ys) ∧ z = .d d ∧ E' = ⟨E.sl, E.ce.set k (.lst ys)⟩ := by
  cases x with
  | d d => cases h
  | t rs => cases h
  | z zs => cases h
  | g L j => cases h
  | c k =>
    have h : (match E.ce[k]? with
      | some (.lst xs) => match f xs with
        | some (d, ys) => some (Vl.d d, (⟨E.sl, E.ce.set k (.lst ys)⟩ : En))
        | none => none
      | _ => none) = some (z, E') := h
    split at h
    · rename_i xs e1
      split at h
      · rename_i d ys e2
        cases h
        exact ⟨k, xs, d, ys, rfl, e1, e2, rfl, rfl⟩
      · cases h
    · cases h
def appF : Vl → List Vl → M Vl := fun x xs => match xs with
  | [r] => bindM (fzM r) fun d => onC (fun acc => if acc.length < 100000 then some (.non, acc ++ [d]) else none) x
  | _ => failM
theorem mm_append {K : PySem.W.Frag} : MM K "list" rAppend appF := fun {μ Hd H σ E x vx xs vs z E'} R hx hxs e Q q => by
  unfold appF at e
  split at e
  · rename_i r
    obtain ⟨d, E1, e1, e2⟩ := bindM_some e
    obtain ⟨v, rfl, hv⟩ := hxs.one
    obtain ⟨Hd1, g1, R1, r1⟩ := fzM_ok R hv e1
    obtain ⟨k, acc, d2, ys, rfl, e3, e4, rfl, rfl⟩ := onC_some e2
    split at e4
    · rename_i hz
      cases e4
      obtain ⟨a, ha, rfl⟩ := Rv.gr g1 hx
      obtain ⟨c1, us, c2, c3⟩ := R1.wo.lst e3 ha
      exact ⟨a, us, v, rfl, rfl, c2, by rw [c3.len]; exact sz_lt hz, q _ _ _ _ g1 (R1.setC e3 ha (c3.app (RpA.one r1))) rfl⟩
    · cases e4
  · cases e
def popF : Vl → List Vl → M Vl := fun x xs => match xs with
  | [] => onC (fun acc => match acc[acc.length - 1]? with
    | some d => some (d, acc.dropLast)
    | none => none) x
  | _ => failM
theorem mm_pop {K : PySem.W.Frag} : MM K "list" rPop popF := fun {μ Hd H σ E x vx xs vs z E'} R hx hxs e Q q => by
  unfold popF at e
  split at e
  · cases hxs
    obtain ⟨k, acc, d2, ys, rfl, e3, e4, rfl, rfl⟩ := onC_some e
    split at e4
    · rename_i d hd
      cases e4
      obtain ⟨a, ha, rfl⟩ := hx
      obtain ⟨c1, us, c2, c3⟩ := R.wo.lst e3 ha
      obtain ⟨v, v1, v2⟩ := RpA.at c3 hd
      exact ⟨a, us, v, rfl, rfl, c2, by rw [c3.len]; exact v1, q _ _ _ _ (Gr.refl μ Hd) (R.setC e3 ha c3.dropLast) v2⟩
    · cases e4
  · cases e
/-- xs.extend(ys), ys a list -/
def extF : Vl → List Vl → M Vl := fun x xs => match xs with
  | [r] => fun E => match see E.ce r with
    | some (.lst ds) => onC (fun acc => if acc.length + ds.length ≤ 100000 then some (.non, acc ++ ds) else none) x E
    | _ => none
  | _ => failM
theorem mm_extend {K : PySem.W.Frag} : MM K "list" rExtend extF := fun {μ Hd H σ E x vx xs vs z E'} R hx hxs e Q q => by
  unfold extF at e
  split at e
  · rename_i r
    split at e
    · rename_i ds e1
      obtain ⟨v, rfl, hv⟩ := hxs.one
      obtain ⟨b, us, rfl, h2, h3⟩ := see_lst R.wo hv e1
      obtain ⟨k, acc, d2, ys, rfl, e3, e4, rfl, rfl⟩ := onC_some e
      split at e4
      · rename_i hz
        cases e4
        obtain ⟨a, ha, rfl⟩ := hx
        obtain ⟨c1, ws, c2, c3⟩ := R.wo.lst e3 ha
        exact ⟨a, b, ws, us, rfl, rfl, c2, h2, by rw [c3.len, h3.len]; exact sz_of hz, q _ _ _ _ (Gr.refl μ Hd) (R.setC e3 ha (c3.app h3)) rfl⟩
      · cases e4
    · cases e
  · cases e
/-- o[i] = e, o a cell's list -/
def setIS (m mo mi : M Vl) : En → Option Rs := fun E => match (bindM m fun r => bindM mo fun o => bindM mi fun i => match i with
    | .d (.int j) => bindM (fzM r) fun d => onC (fun acc => (ixN acc.length j).map fun n => (.non, acc.set n d)) o
    | _ => failM) E with
  | some (_, E1) => some (.nx E1)
  | none => none
theorem ssetI {i : Expr} {ti : TE} {mi : M Vl} {p3 : Pos} (h : Ex_ X e te m) (ho : Ex_ X o to mo) (hi : Ex_ X i ti mi) (pg : PG X (.Subscript o i p3) (gSub to ti rSetL))
    (hs : swapsWithSole [.Subscript o i p3] e pos.line X.env = pure false := by rfl) (hw : swappedStores [.Subscript o i p3] e X.env = pure none := by rfl) (h1 : (assignEach [.Subscript o i p3] X.env).map (·.2) = [assign (.Subscript o i p3) X.env] := by rfl) :
    Sx X (.Assign [.Subscript o i p3] e pos) (tAsg te (gSub to ti rSetL)) (setIS m mo mi) := ⟨ps_asg h.pe pg hs hw h1, fun {μ Hd H σ E R} r q D d => by
  unfold setIS at q
  split at q
  · rename_i u E1 e1
    cases q
    obtain ⟨x, E2, e2, e1⟩ := bindM_some e1
    obtain ⟨y, E3, e3, e1⟩ := bindM_some e1
    obtain ⟨z, E4, e4, e1⟩ := bindM_some e1
    refine h.em r e2 _ fun μ1 Hd1 H1 v g1 R1 r1 => ?_
    refine ho.em R1 e3 _ fun μ2 Hd2 H2 w g2 R2 r2 => ?_
    refine hi.em R2 e4 _ fun μ3 Hd3 H3 w3 g3 R3 r3 => ?_
    split at e1
    · rename_i j
      obtain ⟨dd, E5, e5, e1⟩ := bindM_some e1
      obtain ⟨Hd4, g4, R4, r4⟩ := fzM_ok R3 (Rv.gr (g2.trans g3) r1) e5
      obtain ⟨k, acc, d2, ys, rfl, e6, e7, rfl, rfl⟩ := onC_some e1
      cases q2 : ixN acc.length j with
      | none =>
        rw [q2] at e7
        cases e7
      | some n =>
        rw [q2] at e7
        cases e7
        obtain ⟨a, ha, rfl⟩ := Rv.gr (g3.trans g4) r2
        obtain ⟨c1, us, c2, c3⟩ := R4.wo.lst e6 ha
        exact ⟨a, us, j, n, rfl, r3, c2, by rw [c3.len]; exact q2, d _ _ _ _ (((g1.trans g2).trans g3).trans g4) (R4.setC e6 ha (c3.set n r4))⟩
    · cases e1
  · cases q⟩
end
end Hk
/-! Hk6: calls of own defs, isinstance, short rules by name. -/
namespace Hk
open PySem PySem.Spec PyProof.Rows L2 Evl
section
variable {K : PySem.W.Frag}
theorem om_sub : OM K (rI0 fun i j => .int (i - j)) (op2 subF) := om_intI0
theorem om_mod : OM K (rI (fun _ j => j ≠ 0) fun i j => .int (i.fmod j)) (op2 modF) := om_intI
theorem om_fdiv : OM K (rI CDivN fun i j => .int (i.fdiv j)) (op2 fdivF) := om_intI
theorem om_pow : OM K (rI CPow fun i j => .int (i ^ j.toNat)) (op2 powF) := om_intI
theorem om_lt : OM K (rI0 fun i j => .bl (decide (i < j))) (op2 ltF) := om_intB
theorem om_le : OM K (rI0 fun i j => .bl (decide (i ≤ j))) (op2 leF) := om_intB
theorem om_gt : OM K (rI0 fun i j => .bl (decide (j < i))) (op2 gtF) := om_intB
theorem om_ge : OM K (rI0 fun i j => .bl (decide (j ≤ i))) (op2 geF) := om_intB
theorem op2_bl {f : Dt → Dt → Option Dt} (h : ∀ a b d, f a b = some d → ∃ k, d = .bl k) : ∀ x y E z E', op2 f x y E = some (z, E') → ∃ k, z = .d (.bl k) := fun x y E z E' e => by
  obtain ⟨a, b, d, _, _, e3, rfl, _⟩ := op2_some e
  obtain ⟨k, rfl⟩ := h a b d e3
  exact ⟨k, rfl⟩
theorem intB_bl {f : Int → Int → Bool} : ∀ a b d, intF (fun i j => some (Dt.bl (f i j))) a b = some d → ∃ k, d = .bl k := fun a b d e => by
  obtain ⟨i, j, _, _, e⟩ := intF_some e
  cases e
  exact ⟨_, rfl⟩
theorem le_bl : ∀ x y E z E', op2 leF x y E = some (z, E') → ∃ k, z = .d (.bl k) := op2_bl intB_bl
/-! ### isinstance -/
def tyN : Dt → Option String
  | .non => some "NoneType"
  | .bl _ => some "bool"
  | .int _ => some "int"
  | .str _ => some "str"
  | .lst _ => some "list"
  | .tup _ => some "tuple"
  | .dic _ _ => some "dict"
  | _ => none
theorem tyN_ok {H : Hp} {d : Dt} {v : V} {n : String} (h : Rp K H d v) (e : tyN d = some n) : TyX K H v (.type n) := by
  cases d with
  | non =>
    cases e
    cases (show v = .non from h)
    exact .base .non
  | bl b =>
    cases e
    cases (show v = .bl b from h)
    exact .base (.bl b)
  | int b =>
    cases e
    cases (show v = .int b from h)
    exact .base (.int b)
  | str b =>
    cases e
    cases (show v = .str b from h)
    exact .base (.str b)
  | lst xs =>
    cases e
    obtain ⟨a, vs, rfl, h2, _⟩ := h
    exact .base (.lst h2)
  | tup xs =>
    cases e
    obtain ⟨a, vs, rfl, h2, _⟩ := h
    rcases h2 with (h2 | ⟨o, h2⟩) | ⟨o, its, n, h2, h3, _⟩
    · exact .base (.tup h2)
    · exact .fTuple h2
    · exact .kTuple h2 h3
  | dic _ _ =>
    cases e
    obtain ⟨a, kvs, rfl, h2, _⟩ := h
    rcases h2 with h2 | ⟨o, h2⟩
    · exact .base (.dK h2)
    · exact .fDict h2
  | sq xs => cases e
  | obj _ _ _ => cases e
  | cls _ => cases e
  | exc _ _ _ => cases e
def isiF (n : String) : Dt → Option Dt := fun d => match tyN d with
  | some t => (kitB t n).map .bl
  | none => none
def isi2F (n1 n2 : String) : Dt → Option Dt := fun d => match tyN d with
  | some t => match kitB t n1, kitB t n2 with
    | some a, some b => some (.bl (a || b))
    | _, _ => none
  | none => none
def seeF (f : Dt → Option Dt) (x : Vl) : M Vl := fun E => match see E.ce x with
  | some a => (f a).map fun d => (.d d, E)
  | none => none
theorem seeF_some {f : Dt → Option Dt} {x z : Vl} {E E' : En} (h : seeF f x E = some (z, E')) : ∃ a d, see E.ce x = some a ∧ f a = some d ∧ z = .d d ∧ E' = E := by
  unfold seeF at h
  cases e1 : see E.ce x with
  | none =>
    rw [e1] at h
    cases h
  | some a =>
    rw [e1] at h
    cases q : f a with
    | none => simp [q] at h
    | some d =>
      simp only [q, Option.map_some, Option.some.injEq, Prod.mk.injEq] at h
      obtain ⟨rfl, rfl⟩ := h
      exact ⟨a, d, rfl, q, rfl, rfl⟩
theorem em_isi {ta : TE} {ma : M Vl} {n : String} (ha : EM K ta ma) : EM K (tCB (rIsi K) (tCons ta (tCons (tC (.ty n)) tNil))) (bindM ma (seeF (isiF n))) := fun {μ Hd H σ E r E'} R e Q q => by
  obtain ⟨x, E1, e1, e2⟩ := bindM_some e
  obtain ⟨d, z, e3, e4, rfl, rfl⟩ := seeF_some e2
  refine ha R e1 _ fun μ1 Hd1 H1 v g1 R1 r1 => ?_
  unfold isiF at e4
  cases e5 : tyN d with
  | none =>
    rw [e5] at e4
    cases e4
  | some t =>
    rw [e5] at e4
    have e4 : (kitB t n).map Dt.bl = some z := e4
    cases e6 : kitB t n with
    | none =>
      rw [e6] at e4
      cases e4
    | some b =>
      rw [e6] at e4
      cases e4
      exact ⟨v, .ty n, .type t, .type n, b, rfl, .ty n, tyN_ok (see_ok R1.wo r1 e3) e5, kit_ty e6, q _ _ _ _ g1 R1 rfl⟩
theorem em_isi2 {ta : TE} {ma : M Vl} {n1 n2 : String} (ha : EM K ta ma) : EM K (tCB (rIsiT K) (tCons ta (tCons (tTup (tCons (tC (.ty n1)) (tCons (tC (.ty n2)) tNil))) tNil))) (bindM ma (seeF (isi2F n1 n2))) := fun {μ Hd H σ E r E'} R e Q q => by
  obtain ⟨x, E1, e1, e2⟩ := bindM_some e
  obtain ⟨d, z, e3, e4, rfl, rfl⟩ := seeF_some e2
  refine ha R e1 _ fun μ1 Hd1 H1 v g1 R1 r1 => ?_
  unfold isi2F at e4
  cases e5 : tyN d with
  | none =>
    rw [e5] at e4
    cases e4
  | some t =>
    rw [e5] at e4
    have e4 : (match kitB t n1, kitB t n2 with
      | some a, some b => some (Dt.bl (a || b))
      | _, _ => none) = some z := e4
    split at e4
    · rename_i a b e6 e7
      cases e4
      refine ⟨by show 2 ≤ sizeLine; exact sz_of (by decide), fun p hp => ?_⟩
      obtain ⟨g2, R2⟩ := R1.newD (o := .tup [.ty n1, .ty n2]) hp
      refine ⟨v, p, [.ty n1, .ty n2], .type t, [.type n1, .type n2], a || b, rfl, upd_same, .cons (.ty n1) (.cons (.ty n2) .nil), tyN_ok (Rp.ex (Ex.new hp) _ _ (see_ok R1.wo r1 e3)) e5, ?_, q _ _ _ _ (g1.trans g2) R2 rfl⟩
      exact kitAny_cons (kit_ty e6) (fun ha => kitAny_cons (kit_ty e7) (fun hb => by rw [ha, hb]; exact kitAny_nil) (fun hb => by rw [ha, hb]; rfl)) (fun ha => by rw [ha]; rfl)
    · cases e4
end
section
variable {X : Cx} {a e : Expr} {es : List Expr} {ta te : TE} {ma m : M Vl} {tes : TA} {mes : M (List Vl)} {pos p p2 p3 : Pos}
theorem xisi {x : Str} {n : String} (hm : X.mg "isinstance" = none) (ha : Ex_ X a ta ma) (hmx : X.mg x = none) (hv : bootBuiltins x = some (.type n)) (hg : Gl X "isinstance" := by rfl) (hgx : Gl X x := by rfl) (hn : x ≠ "__name__" := by decide) (hdb : (x == ("__debug__" : Str)) = false := by decide) (hcd : (x == ("__classdict__" : Str)) = false := by decide)
    (h1 : starEach [a, .Name x p2] X.env = (false, eval a X.env) :: starEach [.Name x p2] X.env := by rfl) (h2 : starEach [.Name x p2] X.env = [(false, eval (.Name x p2) X.env)] := by rfl) (h3 : (backTo pos (starEach [.Name x p2] X.env)).any (·.1) = false := by rfl) :
    Ex_ X (.Call (.Name "isinstance" p) [a, .Name x p2] [] pos) (tCB (rIsi X.K) (tCons ta (tCons (tC (.ty n)) tNil))) (bindM ma (seeF (isiF n))) :=
  ⟨pe_callB call_isi hg hm (by decide +kernel) (pa_cons ha.pe (pa_cons (pe_bltn hgx hmx hv (v := .ty n) rfl hn hdb) pa_nil h2) h1) (by decide) (by decide) h1 h3, em_isi ha.em⟩
/-- a call of a def -/
theorem xcall {x : Str} {n k : Nat} {f : Addr} {fd : FuncData} {ps : List Str} {G : Fn} {CX : CXT} {E : XK} (F : FnOk X.prog X.w X.K X.mg X.base CX k f fd ps (spM X.K n G)) (hr : Room k X.A) (hm : X.mg x = some (.ref f)) (hk : PySem.W.keepIn X.K (.ref f) = true) (hb : Binds X.K fd ps [])
    (ha : Ax X (e :: es) tes mes) (hn : ∀ (E : En) (rs : List Vl) (E' : En), mes E = some (rs, E') → rs.length = n) (hx : Passes CX X E) (hg : Gl X x := by rfl) (hdb : (x == ("__debug__" : Str)) = false := by decide)
    (he : starEach (e :: es) X.env = (false, eval e X.env) :: starEach es X.env := by rfl) (hpl : (backTo pos (starEach es X.env)).any (·.1) = false := by rfl) :
    Ex_ X (.Call (.Name x p) (e :: es) [] pos) (tCall (spM X.K n G) [] E tes) (callM G mes) := ⟨pe_call F hr hg hm hk hb .nil hx ha.pa hdb he hpl, em_call hn ha.am⟩
theorem xcall0 {x : Str} {k : Nat} {f : Addr} {fd : FuncData} {G : Fn} {CX : CXT} {E : XK} (F : FnOk X.prog X.w X.K X.mg X.base CX k f fd [] (spM X.K 0 G)) (hr : Room k X.A) (hm : X.mg x = some (.ref f)) (hk : PySem.W.keepIn X.K (.ref f) = true) (hb : Binds X.K fd [] [])
    (hx : Passes CX X E) (hg : Gl X x := by rfl) (hdb : (x == ("__debug__" : Str)) = false := by decide) :
    Ex_ X (.Call (.Name x p) [] [] pos) (tCall (spM X.K 0 G) [] E tNil) (callM G (retM [])) := ⟨pe_call0 F hr hg hm hk hb .nil hx hdb, em_call (nil_len rfl) anil.am⟩
/-- o.m(e, ..), o a list -/
theorem xlm {o : Expr} {to : TE} {mo : M Vl} {name : Str} {id : String} {r : V → List V → Hp → VK → Prop} {f : Vl → List Vl → M Vl} {apos cpos : Pos} (slot : Slot "list" name id) (hty : typeOf (.builtin id) = pure (.type "method_descriptor")) (hm : MtR X id r) (hf : MM X.K "list" r f) (ho : Ex_ X o to mo) (ha : Ax X (e :: es) tes mes)
    (hbase : attributeBase o name X.env (eval o X.env) = eval o X.env := by rfl)
    (hfew : ((backTo cpos (starEach (e :: es) X.env)).all (fun x => !x.1) && (backToKw cpos (keywordEach [] X.env)).all (fun x => x.1.isSome)
      && decide ((e :: es).length + ([] : List Keyword).length + (if ([] : List Keyword).isEmpty then 0 else 1) < 30)) = true := by rfl)
    (hline : (apos.endLine == cpos.line) = true := by rfl) (hs : starEach (e :: es) X.env = (false, eval e X.env) :: starEach es X.env := by rfl) (hplain : (backTo cpos (starEach es X.env)).any (·.1) = false := by rfl) :
    Ex_ X (.Call (.Attribute o name apos) (e :: es) [] cpos) (tBM X.K "list" r to tes) (bmM "list" mo mes f) := ⟨pe_bm PySem.F.plainAttrs_list slot hty hm ho.pe ha.pa hbase hfew hline hs hplain, em_bm ho.em ha.am hf⟩
theorem xlm0 {o : Expr} {to : TE} {mo : M Vl} {name : Str} {id : String} {r : V → List V → Hp → VK → Prop} {f : Vl → List Vl → M Vl} {apos cpos : Pos} (slot : Slot "list" name id) (hty : typeOf (.builtin id) = pure (.type "method_descriptor")) (hm : MtR X id r) (hf : MM X.K "list" r f) (ho : Ex_ X o to mo)
    (hbase : attributeBase o name X.env (eval o X.env) = eval o X.env := by rfl) (hline : (apos.endLine == cpos.line) = true := by rfl) :
    Ex_ X (.Call (.Attribute o name apos) [] [] cpos) (tBM0 X.K "list" r to) (bmM "list" mo (retM []) f) := ⟨pe_bm0 PySem.F.plainAttrs_list slot hty hm ho.pe hbase hline, em_bm0 ho.em hf⟩
/-- -n, n written -/
def negM (m : M Vl) : M Vl := bindM m fun r => match r with
  | .d (.int i) => retM (.d (.int (-i)))
  | _ => failM
theorem xneg (ha : Ex_ X a ta ma) : Ex_ X (.UnaryOp .USub a pos) (tUn (rU fun i => .int (-i)) ta) (negM ma) := ⟨pe_un un_neg ha.pe, fun {μ Hd H σ E r E'} R q Q k => by
  obtain ⟨x, E1, e1, e2⟩ := bindM_some q
  split at e2
  · rename_i i
    cases e2
    exact ha.em R e1 _ fun μ1 Hd1 H1 v g1 R1 r1 => ⟨i, r1, k _ _ _ _ g1 R1 rfl⟩
  · cases e2⟩
theorem re_te {te' : TE} (h : Ex_ X e te m) (q : te = te') : Ex_ X e te' m := q ▸ h
theorem re_tt {ifs : List Expr} {tt tt' : TT} {mt : M Bool} (h : Px X ifs tt mt) (q : tt = tt') : Px X ifs tt' mt := q ▸ h
theorem body_ok {st : List Stmt} {ts : TS} {m : En → Option Rs} {n nl : Nat} {N : List Str} {vs : List V} {H : Hp} {Q : VK} {E : XK} (B : Bx X st ts m) (hN : N.length = n + nl) (h : spM X.K n (fnOf nl m) vs H Q E) :
    ∃ t, PSs X st t ∧ t { nx := fun _ H' => Q .non H', rt := Q } (L2.start N vs) H := ⟨ts, B.ps, run_fn B.sm hN h⟩
end
end Hk
/-! Hk7: reckoning with what a def does, from the left: one rule a piece. -/
namespace Hk
open PySem PySem.Spec PyProof.Rows L2 Evl
section
variable {α β : Type} {E E1 E2 E3 : En} {a : α} {b : β} {r x y z : Vl} {d e d1 d2 : Dt} {k : Bool} {R Q : Rs} {rs : List Vl}
theorem get_new {α : Type} (l : List α) (x : α) : (l ++ [x])[l.length]? = some x := by simp
theorem set_new {α : Type} (l : List α) (x y : α) : (l ++ [x]).set l.length y = l ++ [y] := by
  rw [List.set_append_right _ _ (Nat.le_refl _)]
  simp
theorem get_set {α : Type} {l : List α} {k : Nat} {x y : α} (h : l[k]? = some y) : (l.set k x)[k]? = some x := by
  rw [List.getElem?_set, if_pos rfl, if_pos (List.getElem?_eq_some_iff.mp h).1]
theorem zv_ret {a : α} : retM a E = some (a, E) := rfl
theorem zv_bind {m : M α} {f : α → M β} (h : m E = some (a, E1)) (g : f a E1 = some (b, E2)) : bindM m f E = some (b, E2) := by
  unfold bindM
  rw [h]
  exact g
theorem zv_var {i : Nat} {sl : List (Option Vl)} {ce : List Ce} (h : sl[i]? = some (some r)) : vM i ⟨sl, ce⟩ = some (r, ⟨sl, ce⟩) := by
  unfold vM
  rw [show (En.mk sl ce).sl = sl from rfl, h]
theorem zv_cons {m : M Vl} {ms : M (List Vl)} (h : m E = some (x, E1)) (g : ms E1 = some (rs, E2)) : consM m ms E = some (x :: rs, E2) := zv_bind h (zv_bind g zv_ret)
theorem zv_op2 {f : Dt → Dt → Option Dt} (h1 : see E.ce x = some d1) (h2 : see E.ce y = some d2) (h : f d1 d2 = some d) : op2 f x y E = some (.d d, E) := by
  unfold op2
  rw [h1, h2]
  show (f d1 d2).map _ = _
  rw [h]
  rfl
theorem zv_seeD {ce : List Ce} : see ce (.d d) = some d := rfl
theorem zv_seeX {ce : List Ce} {k : Nat} {c : Ce} (h : ce[k]? = some c) (hd : dataC c = some d) : see ce (.c k) = some d := by
  show (match (ce[k]?).bind dataC with | some d => some d | none => seeN ce k) = _
  rw [h]
  show (match dataC c with | some d => some d | none => seeN ce k) = _
  rw [hd]
theorem zv_seeC {ce : List Ce} {k : Nat} {xs : List Dt} (h : ce[k]? = some (.lst xs)) : see ce (.c k) = some (.lst xs) := zv_seeX h rfl
theorem zv_fzD : fzM (.d d) E = some (d, E) := rfl
theorem zv_fzX {k : Nat} {c : Ce} {d : Dt} {sl : List (Option Vl)} {ce : List Ce} (h : ce[k]? = some c) (hd : dataC c = some d) : fzM (.c k) ⟨sl, ce⟩ = some (d, ⟨sl.map (Option.map (frzV k d)), ce.set k .dead⟩) := by
  show (match (ce[k]?).bind dataC with
    | some d => some (d, frz k d ⟨sl, ce⟩)
    | none => none) = _
  rw [h]
  show (match dataC c with
    | some d => some (d, frz k d ⟨sl, ce⟩)
    | none => none) = _
  rw [hd]
  rfl
theorem zv_fzC {k : Nat} {xs : List Dt} {sl : List (Option Vl)} {ce : List Ce} (h : ce[k]? = some (.lst xs)) : fzM (.c k) ⟨sl, ce⟩ = some (.lst xs, ⟨sl.map (Option.map (frzV k (.lst xs))), ce.set k .dead⟩) := zv_fzX h rfl
theorem zv_fzV {m : M Vl} (h : m E = some (x, E1)) (g : fzM x E1 = some (d, E2)) : fzV m E = some (.d d, E2) := zv_bind (zv_bind h g) zv_ret
theorem zv_ix (h1 : see E.ce x = some d1) (h2 : see E.ce y = some d2) (h : ixD d1 d2 = some d) : ixF x y E = some (.d d, E) := by
  unfold ixF
  rw [h1, h2]
  show (ixD d1 d2).map _ = _
  rw [h]
  rfl
theorem zv_fn1 {f : Dt → Option Dt} (h1 : see E.ce x = some d1) (h : f d1 = some d) : fn1 f [x] E = some (.d d, E) := by
  show (match see E.ce x with
    | some a => (f a).map fun d => (Vl.d d, E)
    | none => none) = _
  rw [h1]
  show (f d1).map _ = _
  rw [h]
  rfl
theorem zv_see {f : Dt → Option Dt} (h1 : see E.ce x = some d1) (h : f d1 = some d) : seeF f x E = some (.d d, E) := by
  unfold seeF
  rw [h1]
  show (f d1).map _ = _
  rw [h]
  rfl
theorem zv_bool : boolM (.d (.bl k)) E = some (k, E) := rfl
theorem zv_tru (h1 : see E.ce x = some d) (h : truD d = some k) : truM x E = some (k, E) := by
  unfold truM
  rw [h1]
  show (truD d).map _ = _
  rw [h]
  rfl
theorem zv_fzA0 : fzA [] E = some ([], E) := rfl
theorem zv_fzA1 {ds : List Dt} (h : fzM x E = some (d, E1)) (g : fzA rs E1 = some (ds, E2)) : fzA (x :: rs) E = some (d :: ds, E2) := zv_bind h (zv_bind g zv_ret)
theorem zv_newL {xs : List Dt} {sl : List (Option Vl)} {ce : List Ce} : newL xs ⟨sl, ce⟩ = some (.c ce.length, ⟨sl, ce ++ [.lst xs]⟩) := rfl
theorem zv_tup {m : M (List Vl)} {ds : List Dt} (h : m E = some (rs, E1)) (hl : rs.length ≤ 100000) (g : fzA rs E1 = some (ds, E2)) : tupM m E = some (.d (.tup ds), E2) := zv_bind h (by rw [if_pos hl]; exact zv_bind g zv_ret)
theorem zv_lst {m : M (List Vl)} {ds : List Dt} (h : m E = some (rs, E1)) (hl : rs.length ≤ 100000) (g : fzA rs E1 = some (ds, E2)) (n : newL ds E2 = some (z, E3)) : lstM m E = some (z, E3) := zv_bind h (by rw [if_pos hl]; exact zv_bind g n)
theorem zv_orF {m n : M Bool} (h : m E = some (k, E1)) (hk : k = false) {b : Bool} (g : n E1 = some (b, E2)) : orM m n E = some (b, E2) := zv_bind h (by rw [hk]; exact g)
theorem zv_orT {m n : M Bool} (h : m E = some (k, E1)) (hk : k = true) : orM m n E = some (true, E1) := zv_bind h (by rw [hk]; rfl)
theorem zv_not {m : M Bool} (h : m E = some (k, E1)) : notM m E = some (!k, E1) := zv_bind h zv_ret
theorem zv_ifT {t : M Bool} {m n : M α} (h : t E = some (k, E1)) (hk : k = true) (g : m E1 = some (a, E2)) : ifM t m n E = some (a, E2) := zv_bind h (by rw [if_pos hk]; exact g)
theorem zv_ifF {t : M Bool} {m n : M α} (h : t E = some (k, E1)) (hk : k = false) (g : n E1 = some (a, E2)) : ifM t m n E = some (a, E2) := zv_bind h (by rw [hk]; exact g)
theorem zv_neg {m : M Vl} {i : Int} (h : m E = some (.d (.int i), E1)) : negM m E = some (.d (.int (-i)), E1) := zv_bind h zv_ret
theorem zv_part {m : M Vl} {i : Int} (h : m E = some (.d (.int i), E1)) : partM m E = some (some i, E1) := zv_bind h zv_ret
theorem zv_call {G : Fn} {m : M (List Vl)} {sl : List (Option Vl)} {ce ce' : List Ce} (h : m E = some (rs, ⟨sl, ce⟩)) (g : G rs ce = some (z, ce')) : callM G m E = some (z, ⟨sl, ce'⟩) := zv_bind h (by
  show (match G rs ce with
    | some (z, ce) => some (z, (⟨sl, ce⟩ : En))
    | none => none) = _
  rw [g])
theorem zv_addI {i j : Int} (h1 : see E.ce x = some (.int i)) (h2 : see E.ce y = some (.int j)) : addF x y E = some (.d (.int (i + j)), E) := by
  unfold addF
  rw [h1, h2]
theorem zv_addL {xs ys : List Dt} (h1 : see E.ce x = some (.lst xs)) (h2 : see E.ce y = some (.lst ys)) (h : xs.length + ys.length ≤ 100000) (g : newL (xs ++ ys) E = some (z, E1)) : addF x y E = some (z, E1) := by
  unfold addF
  rw [h1, h2]
  show (if _ then _ else _) = _
  rw [if_pos h, g]
theorem zv_addS {s t : Str} (h1 : see E.ce x = some (.str s)) (h2 : see E.ce y = some (.str t)) (h : s.length + t.length ≤ sizeLine) : addF x y E = some (.d (.str (s ++ t)), E) := by
  unfold addF
  rw [h1, h2]
  show (if _ then _ else _) = _
  rw [if_pos h]
theorem zv_mulI {i j : Int} (h1 : see E.ce x = some (.int i)) (h2 : see E.ce y = some (.int j)) (h : CMul i j) : mulF x y E = some (.d (.int (i * j)), E) := by
  unfold mulF
  rw [h1, h2]
  show (if _ then _ else _) = _
  rw [if_pos h]
theorem zv_slT {xs : List Dt} {lo hi : Option Int} (h : see E.ce x = some (.tup xs)) : slF x lo hi E = some (.d (.tup (cutD xs lo hi)), E) := by
  unfold slF
  rw [h]
theorem zv_tuple {ds : List Dt} (h : see E.ce x = some d) (hd : itemsD d = some ds) : tupleF [x] E = some (.d (.tup ds), E) := by
  show (match (see E.ce x).bind itemsD with
    | some ds => some (Vl.d (.tup ds), E)
    | none => none) = _
  rw [h]
  show (match itemsD d with
    | some ds => some (Vl.d (.tup ds), E)
    | none => none) = _
  rw [hd]
theorem zv_items {m : M Vl} {ds : List Dt} (h : m E = some (x, E1)) (g : fzM x E1 = some (d, E2)) (hd : itemsD d = some ds) : itemsM m E = some (ds, E2) := zv_bind (zv_bind h g) (by
  show (itemsD d).map _ = _
  rw [hd]
  rfl)
theorem zv_rng1 {m : M (List Vl)} {n : Int} (h : m E = some ([.d (.int n)], E1)) (hn : -(2 ^ 62) ≤ n ∧ n < 2 ^ 62) : rng1M m E = some (rngL 0 n.toNat, E1) := zv_bind h (by
  show (if _ then _ else _) = _
  rw [if_pos hn])
/-- data -/
theorem zw_int {g : Int → Int → Option Dt} {i j : Int} (h : g i j = some d) : intF g (.int i) (.int j) = some d := h
theorem zw_lenL {xs : List Dt} : lenD (.lst xs) = some (.int (xs.length : Int)) := rfl
theorem zw_lenQ {xs : List Dt} : lenD (.sq xs) = some (.int (xs.length : Int)) := rfl
theorem zw_lenT {xs : List Dt} : lenD (.tup xs) = some (.int (xs.length : Int)) := rfl
theorem zw_eq (h : eqd d1 d2 = some k) : eqF d1 d2 = some (.bl k) := by
  unfold eqF
  rw [h]
  rfl
theorem zw_ne (h : eqd d1 d2 = some k) : neF d1 d2 = some (.bl (!k)) := by
  unfold neF
  rw [h]
  rfl
theorem zw_mod {i j : Int} (h : j ≠ 0) : modF (.int i) (.int j) = some (.int (i.fmod j)) := by
  show (if j ≠ 0 then _ else _) = _
  rw [if_pos h]
theorem zw_fdiv {i j : Int} (h : CDivN i j) : fdivF (.int i) (.int j) = some (.int (i.fdiv j)) := by
  show (if CDivN i j then _ else _) = _
  rw [if_pos h]
theorem zw_pow {i j : Int} (h : CPow i j) : powF (.int i) (.int j) = some (.int (i ^ j.toNat)) := by
  show (if CPow i j then _ else _) = _
  rw [if_pos h]
def pickM (k : Bool) (m n : M α) : M α := if k = true then m else n
def pickS (k : Bool) (m n : En → Option Rs) : En → Option Rs := if k = true then m else n
theorem zpk_T {m n : M α} (hk : k = true) (g : m E = some (a, E1)) : pickM k m n E = some (a, E1) := by
  unfold pickM
  rw [if_pos hk]
  exact g
theorem zpk_F {m n : M α} (hk : k = false) (g : n E = some (a, E1)) : pickM k m n E = some (a, E1) := by
  unfold pickM
  rw [hk]
  exact g
theorem zps_T {m n : En → Option Rs} (hk : k = true) (g : m E = some R) : pickS k m n E = some R := by
  unfold pickS
  rw [if_pos hk]
  exact g
theorem zps_F {m n : En → Option Rs} (hk : k = false) (g : n E = some R) : pickS k m n E = some R := by
  unfold pickS
  rw [hk]
  exact g
theorem zv_and {m n : M Bool} {b : Bool} (h : m E = some (k, E1)) (g : pickM k n (retM false) E1 = some (b, E2)) : andM m n E = some (b, E2) := zv_bind h g
theorem zv_or {m n : M Bool} {b : Bool} (h : m E = some (k, E1)) (g : pickM k (retM true) n E1 = some (b, E2)) : orM m n E = some (b, E2) := zv_bind h g
theorem zv_andV {m n : M Vl} (h : bindM m boolM E = some (k, E1)) (g : pickM k n (blM false) E1 = some (z, E2)) : andV m n E = some (z, E2) := zv_bind h g
theorem zv_orV {m n : M Vl} (h : bindM m boolM E = some (k, E1)) (g : pickM k (blM true) n E1 = some (z, E2)) : orV m n E = some (z, E2) := zv_bind h g
theorem zv_bl : blM k E = some (.d (.bl k), E) := rfl
theorem zv_if {t : M Bool} {m n : M α} (h : t E = some (k, E1)) (g : pickM k m n E1 = some (a, E2)) : ifM t m n E = some (a, E2) := zv_bind h g
theorem zk_if {t : M Bool} {m n : En → Option Rs} (h : t E = some (k, E1)) (g : pickS k m n E1 = some R) : ifS t m n E = some R := by
  unfold ifS
  rw [h]
  cases k with
  | true => exact g
  | false => exact g
/-! ### statements -/
def seqK (n : En → Option Rs) : Rs → Option Rs
  | .nx E1 => n E1
  | o => some o
theorem zk_nx {n : En → Option Rs} (h : n E = some R) : seqK n (.nx E) = some R := h
theorem zk_rt {n : En → Option Rs} : seqK n (.rt r E) = some (.rt r E) := rfl
theorem zk_seq {m n : En → Option Rs} (h : m E = some Q) (g : seqK n Q = some R) : seqS m n E = some R := by
  unfold seqS
  rw [h]
  cases Q with
  | nx E1 => exact g
  | rt r E1 => exact g
  | bk E1 => exact g
  | ct E1 => exact g
theorem zk_nil : nilS E = some (.nx E) := rfl
theorem zk_set {i : Nat} {m : M Vl} {sl : List (Option Vl)} {ce : List Ce} (h : m E = some (r, ⟨sl, ce⟩)) : setS i m E = some (.nx ⟨sl.set i (some r), ce⟩) := by
  unfold setS
  rw [h]
  rfl
theorem zk_set2 {i j : Nat} {m : M (List Vl)} {sl : List (Option Vl)} {ce : List Ce} (h : m E = some ([x, y], ⟨sl, ce⟩)) : set2S i j m E = some (.nx ⟨(sl.set i (some x)).set j (some y), ce⟩) := by
  unfold set2S
  rw [h]
  rfl
theorem zk_drop {m : M Vl} (h : m E = some (r, E1)) : dropS m E = some (.nx E1) := by
  unfold dropS
  rw [h]
theorem zk_ret {m : M Vl} (h : m E = some (r, E1)) : retS m E = some (.rt r E1) := by
  unfold retS
  rw [h]
theorem zk_ifT {t : M Bool} {m n : En → Option Rs} (h : t E = some (k, E1)) (hk : k = true) (g : m E1 = some R) : ifS t m n E = some R := by
  unfold ifS
  rw [h]
  show (if k = true then m E1 else n E1) = _
  rw [if_pos hk]
  exact g
theorem zk_ifF {t : M Bool} {m n : En → Option Rs} (h : t E = some (k, E1)) (hk : k = false) (g : n E1 = some R) : ifS t m n E = some R := by
  unfold ifS
  rw [h]
  show (if k = true then m E1 else n E1) = _
  rw [hk]
  exact g
theorem zk_for {i : M (List Dt)} {g : Vl → En → Option En} {m : En → Option Rs} {ds : List Dt} (h : i E = some (ds, E1)) (q : forL g m ds E1 = some R) : forS i g m E = some R := by
  unfold forS
  rw [h]
  exact q
theorem zk_whF {t : M Bool} {m : En → Option Rs} {n : Nat} {sl : En} (h : t E = some (k, E1)) (hk : k = false) (e : E1 = sl) : whileS t m (n + 1) E = some (.nx sl) := by
  subst hk e
  unfold whileS
  rw [h]
theorem zk_whT {t : M Bool} {m : En → Option Rs} {n : Nat} (h : t E = some (k, E1)) (hk : k = true) (g : m E1 = some (.nx E2)) (q : whileS t m n E2 = some R) : whileS t m (n + 1) E = some R := by
  subst hk
  unfold whileS
  rw [h]
  show (match m E1 with
      | some (.nx E2) => whileS t m n E2
      | some (.ct E2) => whileS t m n E2
      | some (.bk E2) => some (.nx E2)
      | some (.rt r E2) => some (.rt r E2)
      | none => none) = _
  rw [g]
  exact q
theorem zk_setI {m mo mi : M Vl} {n : Nat} {j : Int} {xs : List Dt} {c : Nat} {sl : List (Option Vl)} {ce : List Ce} (h : m E = some (.d d, E1)) (ho : mo E1 = some (.c c, E2)) (hi : mi E2 = some (.d (.int j), ⟨sl, ce⟩)) (hc : ce[c]? = some (.lst xs)) (hj : ixN xs.length j = some n) :
    setIS m mo mi E = some (.nx ⟨sl, ce.set c (.lst (xs.set n d))⟩) := by
  unfold setIS
  rw [zv_bind h (zv_bind ho (zv_bind hi (zv_bind (E1 := ⟨sl, ce⟩) (zv_fzD (d := d)) (show onC _ (.c c) ⟨sl, ce⟩ = some (.d .non, ⟨sl, ce.set c (.lst (xs.set n d))⟩) from by
    show (match ce[c]? with
      | some (.lst xs) => match (ixN xs.length j).map fun n => (Dt.non, xs.set n d) with
        | some (d, ys) => some (Vl.d d, (⟨sl, ce.set c (.lst ys)⟩ : En))
        | none => none
      | _ => none) = _
    rw [hc]
    simp only [hj, Option.map_some]))))]
/-! ### a whole def -/
theorem zf_rt {nl : Nat} {m : En → Option Rs} {ce ce' : List Ce} (h : m ⟨rs.map some ++ List.replicate nl none, ce⟩ = some (.rt r E)) (g : trimC ce.length r E.ce = some (z, ce')) : fnOf nl m rs ce = some (z, ce') := by
  unfold fnOf
  rw [h]
  exact g
theorem zf_nx {nl : Nat} {m : En → Option Rs} {ce ce' : List Ce} (h : m ⟨rs.map some ++ List.replicate nl none, ce⟩ = some (.nx E)) (g : trimC ce.length (.d .non) E.ce = some (z, ce')) : fnOf nl m rs ce = some (z, ce') := by
  unfold fnOf
  rw [h]
  exact g
theorem trim_d {n : Nat} {ce ce' : List Ce} (h : ce.take n = ce') : trimC n (.d d) ce = some (.d d, ce') := by
  subst h
  rfl
theorem trim_new {ce : List Ce} {c : Ce} {n : Nat} (h : ce.length = n) : trimC n (.c n) (ce ++ [c]) = some (.c n, ce ++ [c]) := by
  unfold trimC
  subst h
  show (if ce.length < ce.length then _ else _) = _
  rw [if_neg (Nat.lt_irrefl _), get_new, List.take_left']
  rfl
/-! ### loops and comprehensions by what holds between two turns -/
def turnC (own : List Nat) (k : Nat) (g : Vl → En → Option En) (t : M Bool) (m : M Vl) (d : Dt) (E : En) : Option En := match g (.d d) (wipeE own E) with
    | some E1 => match t E1 with
      | some (true, E2) => match bindM m fzM E2 with
        | some (x, E4) => match E4.ce[k]? with
          | some (.lst acc) => if acc.length < 100000 then some ⟨E4.sl, E4.ce.set k (.lst (acc ++ [x]))⟩ else none
          | _ => none
        | none => none
      | some (false, E2) => some E2
      | none => none
    | none => none
theorem compL_cons {own : List Nat} {k : Nat} {g : Vl → En → Option En} {t : M Bool} {m : M Vl} {d : Dt} {ds : List Dt} {E : En} : compL own k g t m (d :: ds) E = match turnC own k g t m d E with
    | some E1 => compL own k g t m ds E1
    | none => none := by
  unfold turnC
  conv => lhs; unfold compL
  cases h0 : g (.d d) (wipeE own E) with
  | none => rfl
  | some E1 =>
    simp only
    cases h1 : t E1 with
    | none => rfl
    | some p =>
      obtain ⟨b, E2⟩ := p
      cases b with
      | false => rfl
      | true =>
        simp only
        cases h : bindM m fzM E2 with
        | none => rfl
        | some p =>
          obtain ⟨x, E4⟩ := p
          simp only
          cases h2 : E4.ce[k]? with
          | none => rfl
          | some c =>
            cases c with
            | dead => rfl
            | pin o => rfl
            | ins C ns ds => rfl
            | dic ks ds => rfl
            | dit ks ds => rfl
            | lkd ks ds => rfl
            | tbl P q => rfl
            | tr t0 => rfl
            | sub k0 p0 => rfl
            | lst acc =>
              by_cases hz : acc.length < 100000
              · simp only [if_pos hz]
              · simp only [if_neg hz]
theorem comp_inv {own : List Nat} {k : Nat} {g : Vl → En → Option En} {t : M Bool} {m : M Vl} (P : Nat → En → Prop) : ∀ (ds : List Dt) (i0 : Nat) (E : En), P i0 E →
    (∀ i d E, ds[i]? = some d → P (i0 + i) E → ∃ E1, turnC own k g t m d E = some E1 ∧ P (i0 + i + 1) E1) → ∃ E2, compL own k g t m ds E = some E2 ∧ P (i0 + ds.length) E2
  | [], i0, E, h0, _ => ⟨E, rfl, h0⟩
  | d :: ds, i0, E, h0, hs => by
    obtain ⟨E1, e1, p1⟩ := hs 0 d E rfl h0
    obtain ⟨E2, e2, p2⟩ := comp_inv P ds (i0 + 1) E1 p1 fun i d E hd hp => by
      have e : i0 + 1 + i = i0 + (i + 1) := by omega
      rw [e] at hp ⊢
      exact hs (i + 1) d E hd hp
    refine ⟨E2, by rw [compL_cons, e1]; exact e2, ?_⟩
    have e : i0 + (d :: ds).length = i0 + 1 + ds.length := by rw [List.length_cons]; omega
    rw [e]
    exact p2
theorem zt_yes {own : List Nat} {c : Nat} {g : Vl → En → Option En} {t : M Bool} {m : M Vl} {d : Dt} {E E1 E2 E3 : En} {acc : List Dt} {x : Dt} {r : Vl} {sl : List (Option Vl)} {ce : List Ce} (hg : g (.d d) (wipeE own E) = some E1) (ht : t E1 = some (true, E2)) (hm : m E2 = some (r, E3)) (hf : fzM r E3 = some (x, ⟨sl, ce⟩))
    (hc : ce[c]? = some (.lst acc)) (hl : acc.length < 100000) : turnC own c g t m d E = some ⟨sl, ce.set c (.lst (acc ++ [x]))⟩ := by
  unfold turnC
  rw [hg]
  show (match t E1 with
      | some (true, E2) => _
      | some (false, E2) => _
      | none => none) = _
  rw [ht]
  show (match bindM m fzM E2 with
          | some (x, E4) => _
          | none => none) = _
  rw [zv_bind hm hf]
  show (match ce[c]? with
          | some (.lst acc) => if acc.length < 100000 then some (⟨sl, ce.set c (.lst (acc ++ [x]))⟩ : En) else none
          | _ => none) = _
  rw [hc]
  show (if _ then _ else _) = _
  rw [if_pos hl]
theorem zt_no {own : List Nat} {c : Nat} {g : Vl → En → Option En} {t : M Bool} {m : M Vl} {d : Dt} {E E1 E2 : En} (hg : g (.d d) (wipeE own E) = some E1) (ht : t E1 = some (false, E2)) : turnC own c g t m d E = some E2 := by
  unfold turnC
  rw [hg]
  show (match t E1 with
      | some (true, E2) => _
      | some (false, E2) => _
      | none => none) = _
  rw [ht]
theorem zv_comp {own : List Nat} {i : M (List Dt)} {g : Vl → En → Option En} {t : M Bool} {m : M Vl} {ds : List Dt} {E E2 : En} {sl : List (Option Vl)} {ce : List Ce} (h : i E = some (ds, ⟨sl, ce⟩)) (hc : compL own ce.length g t m ds ⟨sl, ce ++ [.lst []]⟩ = some E2) :
    compM own i g t m E = some (.c ce.length, ⟨bring sl E2.sl own, E2.ce⟩) := by
  unfold compM
  rw [h]
  show (match compL own ce.length g t m ds ⟨sl, ce ++ [.lst []]⟩ with
    | some E2 => some (Vl.c ce.length, (⟨bring sl E2.sl own, E2.ce⟩ : En))
    | none => none) = _
  rw [hc]
/-- which turns give, and what -/
def givenD (n : Nat) (b : Nat → Bool) (f : Nat → Dt) : List Dt := ((List.range n).filter b).map f
theorem givenD_yes {n : Nat} {b : Nat → Bool} {f : Nat → Dt} (h : b n = true) : givenD (n + 1) b f = givenD n b f ++ [f n] := by
  unfold givenD
  rw [List.range_succ, List.filter_append, List.map_append, List.filter_cons, if_pos h] <;> rfl
theorem givenD_no {n : Nat} {b : Nat → Bool} {f : Nat → Dt} (h : b n = false) : givenD (n + 1) b f = givenD n b f := by
  unfold givenD
  rw [List.range_succ, List.filter_append, List.map_append, List.filter_cons, if_neg (by rw [h]; decide)]
  show _ ++ [] = _
  rw [List.append_nil]
theorem givenD_len (n : Nat) (b : Nat → Bool) (f : Nat → Dt) : (givenD n b f).length ≤ n := by
  unfold givenD
  rw [List.length_map]
  have h := List.length_filter_le b (List.range n)
  rw [List.length_range] at h
  exact h
theorem givenD_all {n : Nat} {f : Nat → Dt} : givenD n (fun _ => true) f = (List.range n).map f := by
  unfold givenD
  rw [List.filter_eq_self.mpr (fun _ _ => rfl)]
theorem get_mid {α : Type} (l : List α) (x : α) (r : List α) : (l ++ [x] ++ r)[l.length]? = some x := by simp
theorem set_mid {α : Type} (l : List α) (x y : α) (r : List α) : (l ++ [x] ++ r).set l.length y = l ++ [y] ++ r := by
  rw [List.set_append_left _ _ (by simp), set_new]
theorem comp_gen {v : Nat} {mi : M (List Dt)} {t : M Bool} {m : M Vl} {ds : List Dt} {E : En} {sl : List (Option Vl)} {ce : List Ce} (b : Nat → Bool) (f : Nat → Dt) (hi : mi E = some (ds, ⟨sl, ce⟩)) (hv : v < sl.length) (hn : ds.length < 100000)
    (hs : ∀ (i : Nat) (d : Dt) (c : Ce) (gs : List Ce), ds[i]? = some d → ∃ gs', t ⟨sl.set v (some (.d d)), ce ++ [c] ++ gs⟩ = some (b i, ⟨sl.set v (some (.d d)), ce ++ [c] ++ gs'⟩) ∧ (b i = true → ∃ gs'', m ⟨sl.set v (some (.d d)), ce ++ [c] ++ gs'⟩ = some (.d (f i), ⟨sl.set v (some (.d d)), ce ++ [c] ++ gs''⟩))) :
    ∃ gs, compM [v] mi (nameG v) t m E = some (.c ce.length, ⟨sl, ce ++ [.lst (givenD ds.length b f)] ++ gs⟩) := by
  obtain ⟨E2, ec, z, gs, e⟩ := comp_inv (own := [v]) (k := ce.length) (g := nameG v) (t := t) (m := m) (fun i E => ∃ (z : Option Vl) (gs : List Ce), E = ⟨sl.set v z, ce ++ [.lst (givenD i b f)] ++ gs⟩) ds 0 ⟨sl, ce ++ [.lst []]⟩
    ⟨sl[v]'hv, [], by rw [List.append_nil, List.set_getElem_self]; rfl⟩ (fun i d E hd hp => by
      obtain ⟨z, gs, rfl⟩ := hp
      rw [Nat.zero_add]
      obtain ⟨gs', ht, hm⟩ := hs i d (.lst (givenD i b f)) gs hd
      have hg : nameG v (.d d) (wipeE [v] ⟨sl.set v z, ce ++ [.lst (givenD i b f)] ++ gs⟩) = some ⟨sl.set v (some (.d d)), ce ++ [.lst (givenD i b f)] ++ gs⟩ := by
        show some (En.mk (((sl.set v z).set v none).set v (some (.d d))) _) = _
        rw [List.set_set, List.set_set]
        rfl
      cases hb : b i with
      | true =>
        rw [hb] at ht
        obtain ⟨gs'', hm⟩ := hm hb
        have hl := givenD_len i b f
        have hi2 : i < ds.length := (List.getElem?_eq_some_iff.mp hd).1
        refine ⟨_, zt_yes hg ht hm zv_fzD (get_mid _ _ _) (by omega), some (.d d), gs'', ?_⟩
        rw [set_mid, givenD_yes hb]
      | false =>
        rw [hb] at ht
        exact ⟨_, zt_no hg ht, some (.d d), gs', by rw [givenD_no hb]⟩)
  rw [Nat.zero_add] at e
  refine ⟨gs, ?_⟩
  rw [zv_comp hi ec, e]
  have hb : bring sl (sl.set v z) [v] = sl := by
    show (sl.set v z).set v (sl[v]?.getD none) = sl
    rw [List.set_set, List.getElem?_eq_getElem hv]
    exact List.set_getElem_self hv
  rw [hb]
/-- a loop whose turns go on -/
theorem for_inv {g : Vl → En → Option En} {m : En → Option Rs} (P : Nat → En → Prop) : ∀ (ds : List Dt) (i0 : Nat) (E : En), P i0 E →
    (∀ i d E, ds[i]? = some d → P (i0 + i) E → ∃ E1 E2, g (.d d) E = some E1 ∧ m E1 = some (.nx E2) ∧ P (i0 + i + 1) E2) → ∃ E2, forL g m ds E = some (.nx E2) ∧ P (i0 + ds.length) E2
  | [], i0, E, h0, _ => ⟨E, rfl, h0⟩
  | d :: ds, i0, E, h0, hs => by
    obtain ⟨E1, E2, e1, e2, p1⟩ := hs 0 d E rfl h0
    obtain ⟨E3, e3, p2⟩ := for_inv P ds (i0 + 1) E2 p1 fun i d E hd hp => by
      have e : i0 + 1 + i = i0 + (i + 1) := by omega
      rw [e] at hp ⊢
      exact hs (i + 1) d E hd hp
    refine ⟨E3, ?_, ?_⟩
    · unfold forL
      rw [e1]
      show (match m E1 with
        | some (.nx E2) => forL g m ds E2
        | some (.ct E2) => forL g m ds E2
        | some (.bk E2) => some (.nx E2)
        | some (.rt r E2) => some (.rt r E2)
        | none => none) = _
      rw [e2]
      exact e3
    · have e : i0 + (d :: ds).length = i0 + 1 + ds.length := by rw [List.length_cons]; omega
      rw [e]
      exact p2
theorem rng_len (lo : Int) (n : Nat) : (rngL lo n).length = n := by simp [rngL]
theorem rng_at {lo : Int} {n i : Nat} {d : Dt} (h : (rngL lo n)[i]? = some d) : i < n ∧ d = .int (lo + (i : Int)) := by
  have hi : i < n := by
    have := (List.getElem?_eq_some_iff.mp h).1
    rw [rng_len] at this
    exact this
  refine ⟨hi, ?_⟩
  unfold rngL at h
  rw [List.getElem?_map, List.getElem?_range hi] at h
  exact (Option.some.inj h).symm
theorem sh_lst {ps : List PyData} (h : PyData.canLayAll0 ps = true) (hd : PyData.depthAll ps ≤ 60) : SeqAt.shaped (.list ps) = true := by
  show (PyData.canLay0 (.list ps) && decide (PyData.depth (.list ps) ≤ 64)) = true
  rw [Bool.and_eq_true]
  refine ⟨by simp only [PyData.canLay0]; exact h, decide_eq_true ?_⟩
  simp only [PyData.depth]
  omega
theorem cut_ev {β : Type} {P : Prop} (x : Option β) {r : β} (h : x = some r) (k : x = some r → P) : P := k h
theorem zw_abs {i : Int} : absD (.int i) = some (.int (if i < 0 then -i else i)) := rfl
theorem zw_intI {i : Int} : intD (.int i) = some (.int i) := rfl
theorem zq_int {i j : Int} : eqd (.int i) (.int j) = some (i == j) := rfl
theorem zq_bl {i j : Bool} : eqd (.bl i) (.bl j) = some (i == j) := rfl
end
end Hk
/-! Hk8: a law's own promise. -/
namespace Hk
open PySem PySem.Spec PyProof.Rows L2 Evl
def spLaw (K : PySem.W.Frag) : Sp := fun vs H Q _ => ∃ (a : Addr) (ns : List Int), vs = [.ref a] ∧ SqL K H a (ns.map V.int) ∧ ns.length ≤ 63 ∧ ∀ H', Q (.bl true) H'
theorem rpA_ints {K : PySem.W.Frag} {H : Hp} : ∀ ns : List Int, RpA K H (ns.map Dt.int) (ns.map V.int)
  | [] => rfl
  | n :: ns => ⟨.int n, ns.map V.int, rfl, rfl, rpA_ints ns⟩
theorem start_of {K : PySem.W.Frag} {H : Hp} {a : Addr} {xs : List V} (h : SqL K H a xs) : ∃ Hd, ExS Hd H ∧ SqL K Hd a xs := by
  have one : ∀ {u : HO}, H a = some u → strip u = u → ExS (upd (fun _ => none) a u) H := fun {u} e hs b w q => by
    by_cases hb : b = a
    · subst hb
      rw [upd_same] at q
      cases q
      rw [hs]
      exact e
    · rw [upd_ne hb] at q
      cases q
  rcases h with (h | ⟨o, h⟩) | h
  · exact ⟨upd (fun _ => none) a (.lst xs), one h rfl, .inl (.inl upd_same)⟩
  · exact ⟨upd (fun _ => none) a (.frz o (.lst xs)), one h rfl, .inl (.inr ⟨o, upd_same⟩)⟩
  · exact ⟨fun _ => none, (fun b w q => nomatch q), Or.inr h⟩
theorem law_of {K : PySem.W.Frag} {G : Fn} (hG : ∀ ns : List Int, ns.length ≤ 63 → G [.d (.sq (ns.map .int))] [] = some (.d (.bl true), [])) : ∀ vs H Q E, spLaw K vs H Q E → spM K 1 G vs H Q E := fun vs H Q E h => by
  obtain ⟨a, ns, rfl, hS, hl, k⟩ := h
  obtain ⟨Hd, x, hS2⟩ := start_of hS
  refine ⟨rfl, [], Hd, [], [.d (.sq (ns.map .int))], .d (.bl true), [], ⟨x, rfl, fun k a ks ds h => by simp at h, fun k c a h => by simp at h, fun j k a c e h => by simp at h, fun k a P q h => by simp at h, TrsOk.empty fun k t h => by simp at h⟩, .cons ⟨a, ns.map V.int, rfl, hS2, rpA_ints ns⟩ .nil, hG ns hl, fun μ' Hd' H' v g w r => ?_⟩
  cases (show v = .bl true from r)
  exact k H'
end Hk
/-! Hk9: instances of own classes: made, their fields, methods, operators. -/
namespace Hk
open PySem PySem.Spec PyProof.Rows L2 Evl

/-! ### fields -/
def look (f : Str) : List Str → List Dt → Option Dt
  | n :: ns, d :: ds => if f = n then some d else look f ns ds
  | _, _ => none
def putN (f : Str) : List Str → List Str
  | [] => [f]
  | g :: r => if g = f then g :: r else g :: putN f r
def putD (f : Str) (d : Dt) : List Str → List Dt → List Dt
  | [], _ => [d]
  | g :: r, x :: xs => if g = f then d :: xs else x :: putD f d r xs
  | _ :: _, [] => []
section
variable {K : PySem.W.Frag} {H Hd : Hp} {μ : List Addr}
theorem look_ok {f : Str} : ∀ {fs : List (Str × V)} {ds : List Dt} {d : Dt}, RpA K H ds (fs.map (·.2)) → look f (fs.map (·.1)) ds = some d → ∃ v, fs.lookup f = some v ∧ Rp K H d v
  | [], ds, d, _, e => by
    cases ds <;> cases e
  | (g, x) :: fs, [], d, h, e => by cases e
  | (g, x) :: fs, y :: ds, d, h, e => by
    obtain ⟨x', r, e0, h2, h3⟩ := h
    cases e0
    have e : (if f = g then some y else look f (fs.map (·.1)) ds) = some d := e
    by_cases hf : f = g
    · rw [if_pos hf] at e
      cases e
      exact ⟨x, by simp only [List.lookup, beq_iff_eq.mpr hf], h2⟩
    · rw [if_neg hf] at e
      obtain ⟨v, h4, h5⟩ := look_ok h3 e
      exact ⟨v, by
        have hb : (f == g) = false := by simpa using hf
        simp only [List.lookup, hb]
        exact h4, h5⟩
theorem look_none {f : Str} : ∀ {fs : List (Str × V)} {ds : List Dt}, RpA K H ds (fs.map (·.2)) → look f (fs.map (·.1)) ds = none → fs.lookup f = none
  | [], ds, _, e => rfl
  | (g, x) :: fs, [], h, e => by
    have := h.len
    simp at this
  | (g, x) :: fs, y :: ds, h, e => by
    obtain ⟨x', r, e0, h2, h3⟩ := h
    cases e0
    have e : (if f = g then some y else look f (fs.map (·.1)) ds) = none := e
    by_cases hf : f = g
    · rw [if_pos hf] at e
      cases e
    · rw [if_neg hf] at e
      have hb : (f == g) = false := by simpa using hf
      simp only [List.lookup, hb]
      exact look_none h3 e
theorem putF_ok {f : Str} {d : Dt} {v : V} (hv : Rp K H d v) : ∀ {fs : List (Str × V)} {ds : List Dt}, RpA K H ds (fs.map (·.2)) → (putF f v fs).map (·.1) = putN f (fs.map (·.1)) ∧ RpA K H (putD f d (fs.map (·.1)) ds) ((putF f v fs).map (·.2))
  | [], ds, _ => ⟨rfl, v, [], rfl, hv, rfl⟩
  | (g, x) :: fs, [], h => by
    have := h.len
    simp at this
  | (g, x) :: fs, y :: ds, h => by
    obtain ⟨x', r, e0, h2, h3⟩ := h
    cases e0
    by_cases hf : g = f
    · have e1 : putF f v ((g, x) :: fs) = (g, v) :: fs := if_pos hf
      have e2 : putN f (((g, x) :: fs).map (·.1)) = g :: fs.map (·.1) := if_pos hf
      have e3 : putD f d (((g, x) :: fs).map (·.1)) (y :: ds) = d :: ds := if_pos hf
      rw [e1, e2, e3]
      exact ⟨rfl, v, _, rfl, hv, h3⟩
    · have e1 : putF f v ((g, x) :: fs) = (g, x) :: putF f v fs := if_neg hf
      have e2 : putN f (((g, x) :: fs).map (·.1)) = g :: putN f (fs.map (·.1)) := if_neg hf
      have e3 : putD f d (((g, x) :: fs).map (·.1)) (y :: ds) = y :: putD f d (fs.map (·.1)) ds := if_neg hf
      rw [e1, e2, e3]
      obtain ⟨i1, i2⟩ := putF_ok hv h3
      exact ⟨by rw [List.map_cons, i1], x, _, rfl, h2, i2⟩
/-- an instance that is seen: its fields are data -/
theorem see_obj {ce : List Ce} {r : Vl} {v : V} {C : Str} {ns : List Str} {ds : List Dt} (w : Wo K μ Hd H ce) (hv : Rv K μ Hd r v) (h : see ce r = some (.obj C ns ds)) : ∃ a dx fs, v = .ref a ∧ H a = some (.ins (clA K C) dx fs) ∧ fs.map (·.1) = ns ∧ RpA K Hd ds (fs.map (·.2)) := by
  cases r with
  | d d' =>
    have e : d' = .obj C ns ds := Option.some.inj h
    subst e
    obtain ⟨a, dx, fs, h1, h2, h3, h4⟩ := hv
    exact ⟨a, dx, fs, h1, w.ex a _ h2, h3, h4⟩
  | c k =>
    obtain ⟨a, e2, rfl⟩ := hv
    rcases seeC_or h with ⟨c, e1, e3⟩ | h
    · obtain ⟨h1, o, h2, h3⟩ := w.at_ k c a e1 e2 (dataC_live e3)
      cases c with
      | ins C' ns' xs =>
        cases e3
        obtain ⟨dx, fs, rfl, h3, h4⟩ := h3
        exact ⟨a, dx, fs, rfl, h2, h3, h4⟩
      | _ => cases e3
    · rcases (seeN_ok w e2 h).2 with ⟨xs, e, _⟩ | ⟨C', ns', xs, e, dx, fs, q1, q2, q3⟩ | ⟨ks, xs, e, _⟩
      · cases e
      · cases e
        exact ⟨a, dx, fs, rfl, q1, q2, q3⟩
      · cases e
  | t rs => cases h
  | z zs => cases h
  | g L j => cases h
def fldD (C f : Str) : Dt → Option Dt
  | .obj C' ns ds => if C' = C then look f ns ds else none
  | _ => none
theorem fldD_some {C f : Str} {x d : Dt} (h : fldD C f x = some d) : ∃ ns ds, x = .obj C ns ds ∧ look f ns ds = some d := by
  cases x with
  | obj C' ns ds =>
    by_cases hc : C' = C
    · subst hc
      have h : (if C' = C' then look f ns ds else none) = some d := h
      rw [if_pos rfl] at h
      exact ⟨ns, ds, rfl, h⟩
    · have h : (if C' = C then look f ns ds else none) = some d := h
      rw [if_neg hc] at h
      cases h
  | _ => cases h
def fldM (C f : Str) (m : M Vl) : M Vl := bindM m (seeF (fldD C f))
theorem em_fld {te : TE} {m : M Vl} {C f : Str} (c : Cls K (clA K C)) (n : NoAttr K (clA K C) f) (h : EM K te m) : EM K (tFld K te f) (fldM C f m) := fun {μ Hd H σ E r E'} R e Q q => by
  obtain ⟨x, E1, e1, e2⟩ := bindM_some e
  obtain ⟨y, d, e3, e4, rfl, rfl⟩ := seeF_some e2
  obtain ⟨ns, ds, rfl, e5⟩ := fldD_some e4
  refine h R e1 _ fun μ1 Hd1 H1 v g1 R1 r1 => ?_
  obtain ⟨a, dx, fs, rfl, h2, rfl, h4⟩ := see_obj R1.wo r1 e3
  obtain ⟨u, h5, h6⟩ := look_ok h4 e5
  exact ⟨a, _, dx, fs, u, rfl, h2, c, n, h5, q μ1 Hd1 H1 u g1 R1 h6⟩
/-- o.f = value -/
def setFS (C f : Str) (mv mo : M Vl) : En → Option Rs := fun E => match bindM mv fzM E with
  | some (d, E1) => match mo E1 with
    | some (.c k, E2) => match E2.ce[k]? with
      | some (.ins C' ns ds) => if C' = C ∧ ns.length < 1000 then some (.nx ⟨E2.sl, E2.ce.set k (.ins C (putN f ns) (putD f d ns ds))⟩) else none
      | _ => none
    | _ => none
  | none => none
theorem sm_fld {tv to : TE} {mv mo : M Vl} {C f : Str} (c : Cls K (clA K C)) (n : NoAttr K (clA K C) f) (hv : EM K tv mv) (ho : EM K to mo) : SM K (sFld K to tv f) (setFS C f mv mo) := fun {μ Hd H σ E R} r e D q => by
  unfold setFS at e
  split at e
  · rename_i d E1 e1
    split at e
    · rename_i k E2 e2
      split at e
      · rename_i C' ns ds e3
        split at e
        · rename_i hc
          cases e
          obtain ⟨rfl, hl⟩ := hc
          obtain ⟨x, E0, e4, e5⟩ := bindM_some e1
          refine hv r e4 _ fun μ1 Hd1 H1 v g1 R1 r1 => ?_
          obtain ⟨Hd2, g2, R2, p2⟩ := fzM_ok R1 r1 e5
          refine ho R2 e2 _ fun μ3 Hd3 H3 u g3 R3 r3 => ?_
          obtain ⟨a, ha, rfl⟩ := r3
          obtain ⟨h1, o, h2, dx, fs, rfl, h3, h4⟩ := R3.wo.at_ k _ a e3 ha rfl
          subst h3
          obtain ⟨k1, k2⟩ := putF_ok (f := f) (Rp.ex g3.ex _ _ p2) h4
          refine ⟨a, _, dx, fs, rfl, h2, c, n, by simpa using hl, ?_⟩
          exact q μ3 Hd3 _ σ ((g1.trans g2).trans g3) (R3.setX e3 rfl ha ⟨dx, _, rfl, k1, k2⟩)
        · cases e
      · cases e
    · cases e
  · cases e
/-! ### C(..) -/
def makeM (C : Str) (G : Fn) (m : M (List Vl)) : M Vl := bindM m fun rs => fun E => match G (.c E.ce.length :: rs) (E.ce ++ [.ins C [] []]) with
  | some (.d .non, ce) => some (.c E.ce.length, ⟨E.sl, ce⟩)
  | _ => none
theorem em_make {C : Str} {G : Fn} {n : Nat} {ta : TA} {ma : M (List Vl)} {E0 : XK} (hn : ∀ E rs E', ma E = some (rs, E') → rs.length = n) (h : AM K ta ma) : EM K (tMake (clA K C) (spM K (n + 1) G) [] E0 ta) (makeM C G ma) := fun {μ Hd H σ E r E'} R q Q k => by
  obtain ⟨rs, E1, e1, e2⟩ := bindM_some q
  split at e2
  · rename_i ce e3
    cases e2
    refine h R e1 _ fun μ1 Hd1 H1 vs g1 R1 r1 x dx hx hdx hne => ?_
    rw [List.append_nil]
    obtain ⟨g2, R2⟩ := R1.newD (o := .own x) hdx
    have hx2 : (upd H1 dx (.own x)) x = none := by
      rw [upd_ne (fun e => hne e.symm)]
      exact hx
    obtain ⟨g3, R3, r3⟩ := R2.newX (c := .ins C [] []) (o := .ins (clA K C) dx []) hx2 ⟨dx, [], rfl, rfl, rfl⟩
    refine ⟨by rw [List.length_cons, r1.len, hn _ _ _ e1], _, _, _, _, _, _, R3.wo, .cons r3 ((r1.gr g2).gr g3), e3, fun μ4 Hd4 H4 v g4 w4 r4 => ⟨r4, ?_⟩⟩
    obtain ⟨a, ha, ea⟩ := r3
    cases ea
    exact k μ4 Hd4 H4 _ (((g1.trans g2).trans g3).trans g4) ⟨w4, ((R1.sl.gr g2).gr g3).gr g4⟩ ⟨_, g4.pre _ _ ha, rfl⟩
  · cases e2
/-! ### o.m(..) -/
def methM (C m : Str) (G : Fn) (mo : M Vl) (ms : M (List Vl)) : M Vl := bindM mo fun x => fun E => match see E.ce x with
  | some (.obj C' ns ds) => if C' = C ∧ (look m ns ds).isNone = true then (bindM ms fun rs => fun E2 => match G (x :: rs) E2.ce with
    | some (z, ce) => some (z, (⟨E2.sl, ce⟩ : En))
    | none => none) E else none
  | _ => none
theorem em_meth {C m : Str} {G : Fn} {n : Nat} {to : TE} {mo : M Vl} {ta : TA} {ma : M (List Vl)} {E0 : XK} (hn : ∀ E rs E', ma E = some (rs, E') → rs.length = n) (ho : EM K to mo) (h : AM K ta ma) : EM K (tMeth (clA K C) m (spM K (n + 1) G) [] E0 to ta) (methM C m G mo ma) := fun {μ Hd H σ E r E'} R q Q k => by
  obtain ⟨x, E1, e1, e2⟩ := bindM_some q
  split at e2
  · rename_i C' ns ds e3
    split at e2
    · rename_i hc
      obtain ⟨rfl, hm⟩ := hc
      obtain ⟨rs, E2, e4, e5⟩ := bindM_some e2
      split at e5
      · rename_i z ce e6
        cases e5
        refine ho R e1 _ fun μ1 Hd1 H1 v g1 R1 r1 => ?_
        obtain ⟨a, dx, fs, rfl, h2, rfl, h4⟩ := see_obj R1.wo r1 e3
        refine ⟨a, dx, fs, rfl, h2, look_none h4 (Option.isNone_iff_eq_none.mp hm), ?_⟩
        refine h R1 e4 _ fun μ2 Hd2 H2 vs g2 R2 r2 => ?_
        rw [List.append_nil]
        exact ⟨by rw [List.length_cons, r2.len, hn _ _ _ e4], μ2, Hd2, E2.ce, _, r, ce, R2.wo, .cons (Rv.gr g2 r1) r2, e6, fun μ3 Hd3 H3 v g3 w3 r3 => k μ3 Hd3 H3 v ((g1.trans g2).trans g3) ⟨w3, R2.sl.gr g3⟩ r3⟩
      · cases e5
    · cases e2
  · cases e2
/-! ### operators of an own class -/
def ownF1 (C : Str) (G : Fn) (x : Vl) : M Vl := fun E => match see E.ce x with
  | some (.obj C' _ _) => if C' = C then match G [x] E.ce with
    | some (z, ce) => some (z, ⟨E.sl, ce⟩)
    | none => none else none
  | _ => none
end
section
variable {X : Cx} {CX : CXT} {k : Nat} {C f : Addr} {fd : FuncData} {ps : List Str} {sp : Sp} {E : XK}
section
variable (F : FnOk X.prog X.w X.K X.mg X.base CX k f fd ps sp) (hr : Room k X.A) (hb : Binds X.K fd ps []) (hx : Passes CX X E)
include F hr hb hx
end
end
end Hk
/-! Hk10: the rules of objects with their syntax; written constants; targets; texts. -/
namespace Hk
open PySem PySem.Spec PyProof.Rows L2 Evl

/-- what the text says of an own class -/
structure OwnC (K : PySem.W.Frag) (C : Addr) : Prop where
  cl : Cls K C
  ha : PySem.W.findIn K (.ref C) "__class__" = some (some (.builtin "object.__class__"))
  hn : PySem.W.specialIn K (.builtin "object.__class__") "__get__" = some (some (.builtin "getset_descriptor.__get__"))
  htk : PySem.W.takesIn K (.builtin "object.__class__") = some true
  hm : PySem.W.mroIn K C (.type "object") = some true
  sf : PySem.W.selfFirst K C = true
section
variable {X : Cx} {a b c e o value : Expr} {ta tb te to tv : TE} {ma mb m mo mv : M Vl} {es : List Expr} {tes : TA} {mes : M (List Vl)} {pos pos' p p2 p3 apos : Pos} {C f x : Str} {n k : Nat} {fa : Addr} {fd : FuncData} {ps : List Str} {G : Fn} {CX : CXT} {E : XK}
theorem xfld (c : OwnC X.K (clA X.K C)) (n : NoAttr X.K (clA X.K C) f) (h : Ex_ X e te m) (hb : attributeBase e f X.env (eval e X.env) = eval e X.env := by rfl) : Ex_ X (.Attribute e f pos) (tFld X.K te f) (fldM C f m) := ⟨pe_fld h.pe hb, em_fld c.cl n h.em⟩
theorem ssetF (c : OwnC X.K (clA X.K C)) (n : NoAttr X.K (clA X.K C) f) (hv : Ex_ X value tv mv) (ho : Ex_ X o to mo) (hs : swapsWith value (some (.Attribute o f pos')) pos.line X.env = pure false := by rfl) : Sx X (.Assign [.Attribute o f pos'] value pos) (sFld X.K to tv f) (setFS C f mv mo) := ⟨ps_fld ho.pe hv.pe hs, sm_fld c.cl n hv.em ho.em⟩
theorem xmake (M : Mk X.K (clA X.K x) fa) (F : FnOk X.prog X.w X.K X.mg X.base CX k fa fd ps (spM X.K (n + 1) G)) (hr : Room (k + 1) X.A) (hm : X.mg x = some (.ref (clA X.K x))) (hb : Binds X.K fd ps [])
    (ha : Ax X (e :: es) tes mes) (hn : ∀ (E : En) (rs : List Vl) (E' : En), mes E = some (rs, E') → rs.length = n) (hx : Passes CX X E) (hg : Gl X x := by rfl) (hdb : (x == ("__debug__" : Str)) = false := by decide)
    (he : starEach (e :: es) X.env = (false, eval e X.env) :: starEach es X.env := by rfl) (hpl : (backTo pos (starEach es X.env)).any (·.1) = false := by rfl) :
    Ex_ X (.Call (.Name x p) (e :: es) [] pos) (tMake (clA X.K x) (spM X.K (n + 1) G) [] E tes) (makeM x G mes) := ⟨pe_make M F hr hg hm hb .nil hx ha.pa hdb he hpl, em_make hn ha.am⟩
theorem xmeth0 {m : Str} {pl : Sem Bool} (c : OwnC X.K (clA X.K C)) (hm : Meth X.K (clA X.K C) m fa) (F : FnOk X.prog X.w X.K X.mg X.base CX k fa fd ps (spM X.K 1 G)) (hr : Room k X.A) (hb : Binds X.K fd ps []) (ho : Ex_ X o to mo) (hx : Passes CX X E)
    (ht : eval (.Call (.Attribute o m apos) [] [] pos) X.env = (do
      let ov ← eval o X.env
      standAt apos.atName
      let (f, first) ← holding [ov] (getMethod ov m pl)
      callWith pos f first (backTo pos (starEach [] X.env)) (backToKw pos (keywordEach [] X.env))) := by rfl) :
    Ex_ X (.Call (.Attribute o m apos) [] [] pos) (tMeth (clA X.K C) m (spM X.K 1 G) [] E to tNil) (methM C m G mo (retM [])) := ⟨pe_meth0 ho.pe c.cl hm F hr hb .nil hx ht, em_meth (n := 0) (nil_len rfl) ho.em anil.am⟩
/-! ### len by the own method -/
def lenOF (C : Str) (G : Fn) : List Vl → M Vl := fun xs => match xs with
  | [x] => bindM (ownF1 C G x) fun r => match r with
    | .d (.int n) => if 0 ≤ n ∧ n < 2 ^ 63 then retM (.d (.int n)) else failM
    | _ => failM
  | _ => failM
/-! ### isinstance of an own class -/
theorem xisi2 {x y : Str} {n1 n2 : String} {pt : Pos} {kt : _} (hm : X.mg "isinstance" = none) (ha : Ex_ X a ta ma) (hmx : X.mg x = none) (hmy : X.mg y = none) (hv : bootBuiltins x = some (.type n1)) (hw : bootBuiltins y = some (.type n2)) (hg : Gl X "isinstance" := by rfl) (hgx : Gl X x := by rfl) (hgy : Gl X y := by rfl)
    (hn : x ≠ "__name__" := by decide) (hdb : (x == ("__debug__" : Str)) = false := by decide) (hn2 : y ≠ "__name__" := by decide) (hdb2 : (y == ("__debug__" : Str)) = false := by decide)
    (h1 : starEach [a, .Tuple [.Name x p2, .Name y p3] kt pt] X.env = (false, eval a X.env) :: starEach [.Tuple [.Name x p2, .Name y p3] kt pt] X.env := by rfl)
    (h2 : starEach [.Tuple [.Name x p2, .Name y p3] kt pt] X.env = [(false, eval (.Tuple [.Name x p2, .Name y p3] kt pt) X.env)] := by rfl)
    (h4 : starEach [.Name x p2, .Name y p3] X.env = (false, eval (.Name x p2) X.env) :: starEach [.Name y p3] X.env := by rfl) (h5 : starEach [.Name y p3] X.env = [(false, eval (.Name y p3) X.env)] := by rfl)
    (h3 : (backTo pos (starEach [.Tuple [.Name x p2, .Name y p3] kt pt] X.env)).any (·.1) = false := by rfl) :
    Ex_ X (.Call (.Name "isinstance" p) [a, .Tuple [.Name x p2, .Name y p3] kt pt] [] pos) (tCB (rIsiT X.K) (tCons ta (tCons (tTup (tCons (tC (.ty n1)) (tCons (tC (.ty n2)) tNil))) tNil))) (bindM ma (seeF (isi2F n1 n2))) :=
  ⟨pe_callB call_isiT hg hm (by decide +kernel) (pa_cons ha.pe (pa_cons (pe_tup (pa_cons (pe_bltn hgx hmx hv (v := .ty n1) rfl hn hdb) (pa_cons (pe_bltn hgy hmy hw (v := .ty n2) rfl hn2 hdb2) pa_nil h5) h4)) pa_nil h2) h1) (by decide) (by decide) h1 h3, em_isi2 ha.em⟩
/-! ### written constants -/
theorem xgint {i : Int} {x : Str} {u : Value} (hm : X.mg x = some u) (hr : RelV (.int i) u) (hg : Gl X x := by rfl) (hdb : (x == ("__debug__" : Str)) = false := by decide) : Ex_ X (.Name x pos) (tC (.int i)) (retM (.d (.int i))) := ⟨pe_glob hg hm hr hdb, em_c (d := .int i) fun _ => (rfl : V.int i = .int i)⟩
/-- a written thing that is data in any heap -/
theorem xgdat {d : Dt} {x : Str} {ad : Addr} (hm : X.mg x = some (.ref ad)) (hr : ∀ H, Rp X.K H d (.ref ad)) (hg : Gl X x := by rfl) (hdb : (x == ("__debug__" : Str)) = false := by decide) : Ex_ X (.Name x pos) (tC (.ref ad)) (retM (.d d)) := ⟨pe_glob hg hm (v := .ref ad) rfl hdb, em_c hr⟩
/-- a written dict with text keys: what stands at some keys -/
def look2 (z : Str) : List (Str × Dt) → Option Dt
  | [] => none
  | (k, d) :: r => if z = k then some d else look2 z r
structure WDic (K : PySem.W.Frag) (w : World) (d : Addr) (tb : List (Str × Dt)) : Prop where
  at_ : ∃ es n, KDict K w d es n
  tab : ∀ (z : Str) (v : Dt), look2 z tb = some v → ∃ u y, PySem.W.nsIn K d z = some (some u) ∧ RelV y u ∧ ∀ H, Rp K H v y
def ixDM (tb : List (Str × Dt)) (mb : M Vl) : M Vl := bindM mb fun y => match y with
  | .d (.str z) => fun E => (look2 z tb).map fun d => (.d d, E)
  | _ => failM
theorem em_ixD {K : PySem.W.Frag} {w : World} {d : Addr} {tb0 : List (Str × Dt)} (D : WDic K w d tb0) (hb : EM K tb mb) : EM K (tOp (rIxD K w) (tC (.ref d)) tb) (ixDM tb0 mb) := fun {μ Hd H σ E r E'} R e Q q => by
  obtain ⟨y, E1, e1, e2⟩ := bindM_some e
  split at e2
  · rename_i z
    cases e3 : look2 z tb0 with
    | none =>
      rw [e3] at e2
      cases e2
    | some v =>
      rw [e3] at e2
      cases e2
      refine hb R e1 _ fun μ1 Hd1 H1 vy g1 R1 r1 => ?_
      cases (show vy = .str z from r1)
      obtain ⟨es, n, kd⟩ := D.at_
      obtain ⟨u, y, h1, h2, h3⟩ := D.tab z v e3
      exact ⟨d, z, y, rfl, rfl, ⟨es, n, u, kd.at_, kd.lit, h1, h2⟩, q μ1 Hd1 H1 y g1 R1 (h3 Hd1)⟩
  · cases e2
theorem xixD {x : Str} {d : Addr} {tb0 : List (Str × Dt)} (D : WDic X.K X.w d tb0) (hm : X.mg x = some (.ref d)) (hb : Ex_ X b tb mb) (hs : PlainIx b := by intro _ _; rfl) (hg : Gl X x := by rfl) (hdb : (x == ("__debug__" : Str)) = false := by decide) :
    Ex_ X (.Subscript (.Name x p) b pos) (tOp (rIxD X.K X.w) (tC (.ref d)) tb) (ixDM tb0 mb) := ⟨pe_ix ix_kdict (pe_glob hg hm (v := .ref d) rfl hdb) hb.pe hs, em_ixD D hb.em⟩
def inDM (neg : Bool) (tb : List (Str × Dt)) (ma : M Vl) : M Vl := bindM ma fun y => match y with
  | .d (.str z) => fun E => (look2 z tb).map fun _ => (.d (.bl (!neg)), E)
  | _ => failM
theorem inDM_some {neg : Bool} {tb : List (Str × Dt)} {ma : M Vl} {E E' : En} {r : Vl} (e : inDM neg tb ma E = some (r, E')) : ∃ z v, ma E = some (.d (.str z), E') ∧ look2 z tb = some v ∧ r = .d (.bl (!neg)) := by
  obtain ⟨y, E1, e1, e2⟩ := bindM_some e
  split at e2
  · rename_i z
    cases e3 : look2 z tb with
    | none =>
      rw [e3] at e2
      cases e2
    | some v =>
      rw [e3] at e2
      cases e2
      exact ⟨z, v, e1, e3, rfl⟩
  · cases e2
theorem tninD {x : Str} {d : Addr} {tb0 : List (Str × Dt)} (D : WDic X.K X.w d tb0) (hm : X.mg x = some (.ref d)) (ha : Ex_ X a ta ma) (hk : behindInMarks .NotIn (.Name x p) = false := by rfl) (hg : Gl X x := by rfl) (hdb : (x == ("__debug__" : Str)) = false := by decide) :
    Tx X (.Compare a [.NotIn] [.Name x p] pos) (tTest (tOp (fun x y H Q => ∃ (z : Str) (r : Option Value), x = .str z ∧ y = .ref d ∧ PySem.W.nsIn X.K d z = some r ∧ Q (.bl (!r.isSome)) H) ta (tC (.ref d)))) (bindM (inDM true tb0 ma) boolM) :=
  ⟨pt_cmpR (by
    obtain ⟨es, n, kd⟩ := D.at_
    exact op_notIn_kd kd) ha.pe (pe_glob hg hm (v := .ref d) rfl hdb) hk, tm_test fun {μ Hd H σ E r E'} R e Q q => by
    obtain ⟨z, v, e1, e2, rfl⟩ := inDM_some e
    refine ha.em R e1 _ fun μ1 Hd1 H1 vy g1 R1 r1 => ?_
    obtain ⟨u, y, h1, h2, h3⟩ := D.tab z v e2
    exact ⟨z, some u, r1, rfl, h1, q μ1 Hd1 H1 _ g1 R1 rfl⟩⟩
/-! ### a, b, c = value -/
structure Gsx (X : Cx) (es : List Expr) (t : TGs) (gs : List (Vl → En → Option En)) : Prop where
  pg : PGs X es t
  gm : GsM X.K t gs
theorem gsnil : Gsx X [] gNil [] := ⟨pgs_nil, gsm_nil⟩
theorem gscons {t : TG} {u : TGs} {g : Vl → En → Option En} {gs : List (Vl → En → Option En)} (h1 : Gx X e t g) (h2 : Gsx X es u gs) (hs : (assignEach (e :: es) X.env).map (·.2) = assign e X.env :: (assignEach es X.env).map (·.2) := by rfl) : Gsx X (e :: es) (gCons t u) (g :: gs) := ⟨pgs_cons h1.pg h2.pg hs, gsm_cons h1.gm h2.gm⟩
theorem gtupX {t : TGs} {gs : List (Vl → En → Option En)} {n k : Nat} (hc : X.calm = true) (h : Gsx X es t gs) (hl : gs.length = n) (hn : (assignEach es X.env).length = n := by rfl) (hst : (assignEach es X.env).findIdx? (·.1) = none := by rfl) : Gx X (.Tuple es k pos) (gTup X.K n t) (tupG gs) := ⟨pg_tup hc h.pg hn hst, gm_tup hl h.gm⟩
def asgS (m : M Vl) (g : Vl → En → Option En) : En → Option Rs := fun E => match m E with
  | some (r, E1) => match g r E1 with
    | some E2 => some (.nx E2)
    | none => none
  | none => none
theorem sasg {tg : Expr} {g : TG} {gm : Vl → En → Option En} (h : Ex_ X e te m) (hg : Gx X tg g gm) (hs : swapsWithSole [tg] e pos.line X.env = pure false := by rfl) (hw : swappedStores [tg] e X.env = pure none := by rfl)
    (h1 : (assignEach [tg] X.env).map (·.2) = [assign tg X.env] := by rfl) : Sx X (.Assign [tg] e pos) (tAsg te g) (asgS m gm) := ⟨ps_asg h.pe hg.pg hs hw h1, fun {μ Hd H σ E R} r q D d => by
  unfold asgS at q
  split at q
  · rename_i v E1 e1
    split at q
    · rename_i E2 e2
      cases q
      exact h.em r e1 _ fun μ1 Hd1 H1 x g1 R1 r1 => hg.gm R1 r1 e2 _ fun μ2 Hd2 H2 σ2 g2 R2 => d μ2 Hd2 H2 σ2 (g1.trans g2) R2
    · cases q
  · cases q⟩
/-! ### iterating a text -/
def chrs (s : Str) : List Dt := s.cps.toList.map fun c => .str ⟨#[c]⟩
def strM (m : M Vl) : M (List Dt) := bindM m fun r => match r with
  | .d (.str s) => retM (chrs s)
  | _ => failM
theorem serves_s {K : PySem.W.Frag} {Hd : Hp} (s : Str) : Serves (Its s) K Hd (chrs s) := fun Hd1 H1 i e1 e2 => by
  have hl : (chrs s).length = s.cps.size := by simp [chrs]
  refine ⟨fun h => by rw [hl] at h; exact h, fun d hd => ?_⟩
  have hi : i < s.cps.size := by
    have := (List.getElem?_eq_some_iff.mp hd).1
    omega
  refine ⟨hi, fun x H' ⟨q1, q2⟩ => ⟨Hd1, .inl ⟨q1, rfl⟩, ?_⟩⟩
  obtain ⟨c, hc, rfl⟩ := q2
  have e : d = .str ⟨#[c]⟩ := by
    unfold chrs at hd
    rw [List.getElem?_map, Array.getElem?_toList, hc] at hd
    exact (Option.some.inj hd).symm
  subst e
  exact rfl
theorem istr {tg iter : Expr} (h : Ex_ X iter te m) : Ix_ X tg iter (iStr te) (strM m) := ⟨pi_str h.pe, fun {μ Hd H σ E ds E'} R e Q q => by
  obtain ⟨r, E1, e1, e2⟩ := bindM_some e
  split at e2
  · rename_i s
    cases e2
    exact h.em R e1 _ fun μ1 Hd1 H1 v g1 R1 r1 => ⟨s, r1, q μ1 Hd1 H1 _ g1 R1 (serves_s s)⟩
  · cases e2⟩
/-! ### range(i, j, -1) -/
def rngD (hi : Int) (n : Nat) : List Dt := (List.range n).map fun (i : Nat) => .int (hi + (i : Nat) * (-1))
theorem serves_rd {K : PySem.W.Frag} {Hd : Hp} (lo : Int) (n : Nat) : Serves (Itc lo (-1) n) K Hd (rngD lo n) := fun Hd1 H1 i e1 e2 => by
  have hl : (rngD lo n).length = n := by simp [rngD]
  refine ⟨fun h => by rw [hl] at h; exact h, fun d hd => ?_⟩
  have hi : i < n := by
    have := (List.getElem?_eq_some_iff.mp hd).1
    omega
  refine ⟨hi, fun x H' ⟨q1, q2⟩ => ⟨Hd1, .inl ⟨q1, rfl⟩, ?_⟩⟩
  have e : d = .int (lo + (i : Nat) * (-1)) := by
    unfold rngD at hd
    rw [List.getElem?_map, List.getElem?_range hi] at hd
    exact (Option.some.inj hd).symm
  subst e q2
  exact rfl
def rng3M (m : M (List Vl)) : M (List Dt) := bindM m fun rs => match rs with
  | [.d (.int i), .d (.int j), .d (.int c)] => fun E => if -(2 ^ 62) ≤ i ∧ i < 2 ^ 62 ∧ -(2 ^ 62) ≤ j ∧ j < 2 ^ 62 ∧ c = -1 then some (rngD i (i - j).toNat, E) else none
  | _ => failM
theorem irng3 {tg : Expr} (hm : X.mg "range" = none) (ha : Ax X [a, b, c] tes mes) (hg : Gl X "range" := by rfl) (hs : starEach [a, b, c] X.env = (false, eval a X.env) :: starEach [b, c] X.env := by rfl) (hpl : (backTo pos (starEach [b, c] X.env)).any (·.1) = false := by rfl) :
    Ix_ X tg (.Call (.Name "range" p) [a, b, c] [] pos) (iRng3 tes) (rng3M mes) := ⟨pi_range3 hg hm ha.pa hs hpl, fun {μ Hd H σ E ds E'} R e Q q => by
  obtain ⟨rs, E1, e1, e2⟩ := bindM_some e
  split at e2
  · rename_i i j k
    split at e2
    · rename_i hn
      cases e2
      obtain ⟨n1, n2, n3, n4, rfl⟩ := hn
      refine ha.am R e1 _ fun μ1 Hd1 H1 vs g1 R1 r1 => ?_
      cases r1 with
      | cons p1 t =>
        cases t with
        | cons p2 t2 =>
          cases t2 with
          | cons p3 t3 =>
            cases t3
            cases (show _ = V.int i from p1)
            cases (show _ = V.int j from p2)
            cases (show _ = V.int (-1) from p3)
            exact ⟨i, j, -1, _, rfl, RgC.neg n1 n2 n3 n4, q μ1 Hd1 H1 _ g1 R1 (serves_rd i (i - j).toNat)⟩
    · cases e2
  · cases e2⟩
/-! ### xs[::-1] -/
theorem RpA.rev {K : PySem.W.Frag} {H : Hp} : ∀ {ds : List Dt} {vs : List V}, RpA K H ds vs → RpA K H ds.reverse vs.reverse
  | [], vs, h => by
    rw [show vs = [] from h]
    exact (rfl : ([] : List V) = [])
  | d :: ds, vs, h => by
    obtain ⟨y, r, rfl, h2, h3⟩ := h
    rw [List.reverse_cons, List.reverse_cons]
    exact (RpA.rev h3).app (.one h2)
def revM (m : M Vl) : M Vl := bindM m fun x => fun E => match see E.ce x with
  | some (.lst ds) => newL ds.reverse E
  | some (.sq ds) => newL ds.reverse E
  | _ => none
theorem xrev {kk : Nat} {p1 p2 p3 : Pos} (h : Ex_ X e te m) : Ex_ X (.Subscript e (.Slice none none (some (.UnaryOp .USub (.Constant (.int 1) kk p1) p2)) p3) pos) (tRevL X.K te) (revM m) := ⟨pe_revL h.pe, fun {μ Hd H σ E r E'} R e Q q => by
  obtain ⟨x, E1, e1, e2⟩ := bindM_some e
  split at e2
  · rename_i ds e3
    refine h.em R e1 _ fun μ1 Hd1 H1 v g1 R1 r1 => ?_
    obtain ⟨a, vs, rfl, h2, h3⟩ := see_lst R1.wo r1 e3
    refine ⟨a, vs, rfl, sq_of h2, fun p hp => ?_⟩
    obtain ⟨g2, R2, r2⟩ := newL_ok R1 h3.rev e2 hp
    exact q _ _ _ _ (g1.trans g2) R2 r2
  · rename_i ds e3
    refine h.em R e1 _ fun μ1 Hd1 H1 v g1 R1 r1 => ?_
    obtain ⟨a, vs, rfl, h2, h3⟩ := see_sq R1.wo r1 e3
    refine ⟨a, vs, rfl, h2, fun p hp => ?_⟩
    obtain ⟨g2, R2, r2⟩ := newL_ok R1 h3.rev e2 hp
    exact q _ _ _ _ (g1.trans g2) R2 r2
  · cases e2⟩
end
/-! ### texts compared -/
section
variable {K : PySem.W.Frag}
def leSF : Dt → Dt → Option Dt
  | .str i, .str j => some (.bl (!decide (j.cps.toList < i.cps.toList)))
  | _, _ => none
def rLeS : R2 := fun x y H Q => ∃ i j, x = .str i ∧ y = .str j ∧ Q (.bl (!decide (j.cps.toList < i.cps.toList))) H
theorem op_leS {X : Cx} : OpR X (compareOp .LtE) rLeS := op_le_str
theorem om_leS : OM K rLeS (op2 leSF) := om_op2 fun H a b d vx vy ha hb e Q q => by
  unfold leSF at e
  split at e
  · rename_i i j
    cases e
    exact ⟨i, j, ha, hb, q _ fun _ => rfl⟩
  · cases e
theorem leS_bl : ∀ x y E z E', op2 leSF x y E = some (z, E') → ∃ k, z = .d (.bl k) := op2_bl fun a b d e => by
  unfold leSF at e
  split at e
  · cases e
    exact ⟨_, rfl⟩
  · cases e
end
end Hk
namespace Hk
open PySem PySem.Spec PyProof.Rows L2 Evl
section
variable {X : Cx} {a b c : Expr} {ta tb tc : TE} {ma mb mc : M Vl} {pos : Pos}
theorem xchain {op op' : CmpOp} {r r' : R2} {f g : Vl → Vl → M Vl} (ho : OpR X (compareOp op) r) (ho' : OpR X (compareOp op') r') (hf : OM X.K r f) (hg : OM X.K r' g) (hgb : ∀ x y E z E', g x y E = some (z, E') → ∃ k, z = .d (.bl k)) (ha : Ex_ X a ta ma) (hb : Ex_ X b tb mb) (hc : Ex_ X c tc mc)
    (hm : lastMarks [op, op'] [b, c] = false := by with_unfolding_all rfl) : Ex_ X (.Compare a [op, op'] [b, c] pos) (tChain r r' ta tb tc) (chainV f g ma mb mc) := ⟨pe_chain ho ho' ha.pe hb.pe hc.pe hm, em_chain hf hg hgb ha.em hb.em hc.em⟩
end
end Hk
theorem L2.Room.monoR {j b n : Nat} {A : PySem.Around} (r : L2.Room (b + n) A) (h : j ≤ b) : L2.Room j A := r.mono (Nat.le_trans h (Nat.le_add_right b n))
/-! Hk11: evaluation: objects, methods of lists, tables, targets, texts. -/
namespace Hk
open PySem PySem.Spec PyProof.Rows L2 Evl
section
variable {E E1 E2 E3 : En} {x y z r : Vl} {d d1 d2 : Dt} {rs : List Vl} {k : Bool}
theorem zv_app {mo : M Vl} {ma : M (List Vl)} {c : Nat} {acc : List Dt} {sl sl2 : List (Option Vl)} {ce ce2 ce3 : List Ce} (ho : mo E = some (.c c, ⟨sl, ce⟩)) (hs : see ce (.c c) = some (.lst acc)) (ha : ma ⟨sl, ce⟩ = some ([r], ⟨sl2, ce2⟩)) (hf : fzM r ⟨sl2, ce2⟩ = some (d, ⟨sl, ce3⟩)) {acc2 : List Dt} (h3 : ce3[c]? = some (.lst acc2)) (hl : acc2.length < 100000) :
    bmM "list" mo ma appF E = some (.d .non, ⟨sl, ce3.set c (.lst (acc2 ++ [d]))⟩) := by
  refine zv_bind ho ?_
  show (match see ce (.c c) with
    | some d => if tyB "list" d = true then (bindM ma fun xs => appF (.c c) xs) ⟨sl, ce⟩ else none
    | none => none) = _
  rw [hs]
  refine zv_bind (m := ma) ha (zv_bind (m := fzM r) hf ?_)
  show (match ce3[c]? with
    | some (.lst xs) => match (if xs.length < 100000 then some (Dt.non, xs ++ [d]) else none) with
      | some (d, ys) => some (Vl.d d, (⟨sl, ce3.set c (.lst ys)⟩ : En))
      | none => none
    | _ => none) = _
  rw [h3]
  simp only [if_pos hl]
theorem zv_pop {mo : M Vl} {c : Nat} {acc : List Dt} {sl : List (Option Vl)} {ce : List Ce} (ho : mo E = some (.c c, ⟨sl, ce⟩)) (h3 : ce[c]? = some (.lst (acc ++ [d]))) :
    bmM "list" mo (retM []) popF E = some (.d d, ⟨sl, ce.set c (.lst acc)⟩) := by
  refine zv_bind ho ?_
  have hs : see ce (.c c) = some (.lst (acc ++ [d])) := zv_seeC h3
  show (match see ce (.c c) with
    | some d => if tyB "list" d = true then (bindM (retM []) fun xs => popF (.c c) xs) ⟨sl, ce⟩ else none
    | none => none) = _
  rw [hs]
  show (bindM (retM []) fun xs => popF (.c c) xs) ⟨sl, ce⟩ = _
  refine zv_bind zv_ret ?_
  show (match ce[c]? with
    | some (.lst acc) => match (match acc[acc.length - 1]? with
      | some d => some (d, acc.dropLast)
      | none => none) with
      | some (d, ys) => some (Vl.d d, (⟨sl, ce.set c (.lst ys)⟩ : En))
      | none => none
    | _ => none) = _
  rw [h3]
  simp
theorem zv_fld {C f : Str} {m : M Vl} {ns : List Str} {ds : List Dt} (h : m E = some (x, E1)) (hs : see E1.ce x = some (.obj C ns ds)) (hl : look f ns ds = some d) : fldM C f m E = some (.d d, E1) := zv_bind h (zv_see hs (by
  show (if C = C then look f ns ds else none) = some d
  rw [if_pos rfl, hl]))
theorem zk_setF {C f : Str} {mv mo : M Vl} {c : Nat} {ns : List Str} {ds : List Dt} {sl : List (Option Vl)} {ce : List Ce} (h : mv E = some (x, E1)) (hf : fzM x E1 = some (d, E2)) (ho : mo E2 = some (.c c, ⟨sl, ce⟩)) (hc : ce[c]? = some (.ins C ns ds)) (hl : ns.length < 1000) :
    setFS C f mv mo E = some (.nx ⟨sl, ce.set c (.ins C (putN f ns) (putD f d ns ds))⟩) := by
  unfold setFS
  rw [zv_bind h hf]
  simp only [ho, hc]
  rw [if_pos ⟨trivial, hl⟩]
theorem zv_make {C : Str} {G : Fn} {m : M (List Vl)} {sl : List (Option Vl)} {ce ce' : List Ce} (h : m E = some (rs, ⟨sl, ce⟩)) (g : G (.c ce.length :: rs) (ce ++ [.ins C [] []]) = some (.d .non, ce')) : makeM C G m E = some (.c ce.length, ⟨sl, ce'⟩) := zv_bind h (by
  simp only [g])
theorem zv_meth {C m : Str} {G : Fn} {mo : M Vl} {ms : M (List Vl)} {ns : List Str} {ds : List Dt} {sl : List (Option Vl)} {ce ce' : List Ce} (ho : mo E = some (x, E1)) (hs : see E1.ce x = some (.obj C ns ds)) (hl : look m ns ds = none) (ha : ms E1 = some (rs, ⟨sl, ce⟩)) (g : G (x :: rs) ce = some (z, ce')) :
    methM C m G mo ms E = some (z, ⟨sl, ce'⟩) := zv_bind ho (by
  simp only [hs]
  rw [if_pos ⟨trivial, by rw [hl]; rfl⟩]
  exact zv_bind ha (by simp only [g]))
theorem zv_ixD {tb : List (Str × Dt)} {m : M Vl} {s : Str} (h : m E = some (.d (.str s), E1)) (hl : look2 s tb = some d) : ixDM tb m E = some (.d d, E1) := zv_bind h (by
  show (look2 s tb).map _ = _
  rw [hl]
  rfl)
theorem zv_inD {tb : List (Str × Dt)} {neg : Bool} {m : M Vl} {s : Str} (h : m E = some (.d (.str s), E1)) (hl : look2 s tb = some d) : inDM neg tb m E = some (.d (.bl (!neg)), E1) := zv_bind h (by
  show (look2 s tb).map _ = _
  rw [hl]
  rfl)
theorem zk_asg {m : M Vl} {g : Vl → En → Option En} (h : m E = some (r, E1)) (hg : g r E1 = some E2) : asgS m g E = some (.nx E2) := by
  unfold asgS
  rw [h]
  simp only [hg]
theorem zg_tup3 {i j k : Nat} {a b c : Dt} {sl : List (Option Vl)} {ce : List Ce} : tupG [nameG i, nameG j, nameG k] (.d (.tup [a, b, c])) ⟨sl, ce⟩ = some ⟨((sl.set i (some (.d a))).set j (some (.d b))).set k (some (.d c)), ce⟩ := rfl
theorem zg_name {i : Nat} {r : Vl} {sl : List (Option Vl)} {ce : List Ce} : nameG i r ⟨sl, ce⟩ = some ⟨sl.set i (some r), ce⟩ := rfl
theorem fl_nil {g : Vl → En → Option En} {m : En → Option Rs} {E : En} : forL g m [] E = some (.nx E) := rfl
theorem fl_cons {g : Vl → En → Option En} {m : En → Option Rs} {d : Dt} {ds : List Dt} {E E1 E2 : En} {R : Rs} (h1 : g (.d d) E = some E1) (h2 : m E1 = some (.nx E2)) (h3 : forL g m ds E2 = some R) : forL g m (d :: ds) E = some R := by
  unfold forL
  rw [h1]
  show (match m E1 with
    | some (.nx E2) => forL g m ds E2
    | some (.ct E2) => forL g m ds E2
    | some (.bk E2) => some (.nx E2)
    | some (.rt r E2) => some (.rt r E2)
    | none => none) = _
  rw [h2]
  exact h3
theorem zv_str {m : M Vl} {s : Str} (h : m E = some (.d (.str s), E1)) : strM m E = some (chrs s, E1) := zv_bind h zv_ret
theorem zv_rng3 {m : M (List Vl)} {i : Int} (h : m E = some ([.d (.int i), .d (.int 0), .d (.int (-1))], E1)) (hi : 0 ≤ i ∧ i < 2 ^ 62) : rng3M m E = some (rngD i i.toNat, E1) := zv_bind h (by
  show (if _ then _ else _) = _
  rw [if_pos ⟨by omega, hi.2, by omega, by omega, rfl⟩, Int.sub_zero])
theorem zv_rev {m : M Vl} {ds : List Dt} {sl : List (Option Vl)} {ce : List Ce} (h : m E = some (x, ⟨sl, ce⟩)) (hs : see ce x = some (.lst ds)) : revM m E = some (.c ce.length, ⟨sl, ce ++ [.lst ds.reverse]⟩) := zv_bind h (by
  simp only [hs]
  rfl)
theorem zv_chain {f g : Vl → Vl → M Vl} {ma mb mc : M Vl} {b1 : Bool} (ha : ma E = some (x, E1)) (hb : mb E1 = some (y, E2)) (hf : f x y E2 = some (.d (.bl b1), E3)) {E4 : En} (hr : pickM b1 (bindM mc (g y)) (blM false) E3 = some (z, E4)) : chainV f g ma mb mc E = some (z, E4) := zv_bind ha (zv_bind hb (zv_bind (zv_bind hf zv_bool) hr))
theorem get_L {ce L : List Ce} {i : Nat} {c : Ce} (h : L[i]? = some c) : (ce ++ L)[ce.length + i]? = some c := by
  rw [List.getElem?_append_right (by omega), Nat.add_sub_cancel_left]
  exact h
theorem set_L {ce L : List Ce} {i : Nat} {c : Ce} : (ce ++ L).set (ce.length + i) c = ce ++ L.set i c := by
  rw [List.set_append_right _ _ (by omega), Nat.add_sub_cancel_left]
theorem zv_appL {mo : M Vl} {ma : M (List Vl)} {i : Nat} {acc : List Dt} {sl : List (Option Vl)} {ce L L' : List Ce} (ho : mo E = some (.c (ce.length + i), ⟨sl, ce ++ L⟩)) (ha : ma ⟨sl, ce ++ L⟩ = some ([.d d], ⟨sl, ce ++ L⟩)) (h : L[i]? = some (.lst acc)) (hl : acc.length < 100000) (hL : L.set i (.lst (acc ++ [d])) = L') :
    bmM "list" mo ma appF E = some (.d .non, ⟨sl, ce ++ L'⟩) := by
  rw [zv_app ho (zv_seeC (get_L h)) ha zv_fzD (get_L h) hl, set_L, hL]
theorem zv_popL {mo : M Vl} {i : Nat} {acc : List Dt} {sl : List (Option Vl)} {ce L L' : List Ce} (ho : mo E = some (.c (ce.length + i), ⟨sl, ce ++ L⟩)) (h : L[i]? = some (.lst (acc ++ [d]))) (hL : L.set i (.lst acc) = L') :
    bmM "list" mo (retM []) popF E = some (.d d, ⟨sl, ce ++ L'⟩) := by
  rw [zv_pop ho (get_L h), set_L, hL]
theorem zq_str {s t : Str} (hs : PyData.strOk s = true) (ht : PyData.strOk t = true) : eqd (.str s) (.str t) = some (decide (s = t)) := by
  show (if SeqAt.shaped (.str s) = true ∧ SeqAt.shaped (.str t) = true then some (PyData.eqv (.str s) (.str t)) else none) = _
  have h : ∀ s, PyData.strOk s = true → SeqAt.shaped (.str s) = true := fun s h => by simp [SeqAt.shaped, PyData.canLay0, PyData.depth, h]
  rw [if_pos ⟨h s hs, h t ht⟩]
  simp only [PyData.eqv]
  by_cases e : s = t
  · subst e
    simp
  · rw [decide_eq_false e]
    simpa using e
end
/-! ### written things: made from the text's facts -/
theorem kt_strs {K : PySem.W.Frag} {a : Addr} {dd : Option Addr} {n : Nat} {sl : Array (Option Value)} (ps : List (Str × Tok)) (l : K.lookup a = some ⟨.type "tuple", dd, .seq (ps.map fun p => Value.str p.1 p.2).toArray n, sl⟩) (hz : ps.length ≤ sizeLine := by decide) : ∀ H, Rp K H (.tup (ps.map fun p => .str p.1)) (.ref a) := fun H => by
  have hv : ∀ ps : List (Str × Tok), Vals (ps.map fun p => V.str p.1) (ps.map fun p => Value.str p.1 p.2) := fun ps => by
    induction ps with
    | nil => exact .nil
    | cons p ps ih => exact .cons ⟨_, rfl⟩ ih
  have hr : ∀ ps : List (Str × Tok), RpA K H (ps.map fun p => Dt.str p.1) (ps.map fun p => V.str p.1) := fun ps => by
    induction ps with
    | nil => exact (rfl : ([] : List V) = [])
    | cons p ps ih => exact ⟨_, _, rfl, rfl, ih⟩
  exact ⟨a, ps.map fun p => V.str p.1, rfl, .inr ⟨_, _, _, l, rfl, rfl, by simpa using hz, by simpa using hv ps⟩, hr ps⟩
theorem wdic_mk {K : PySem.W.Frag} {w : World} {d : Addr} {tb : List (Str × Dt)} (h : ∃ es n, KDict K w d es n) (g : ∀ p ∈ tb, ∃ u y, PySem.W.nsIn K d p.1 = some (some u) ∧ RelV y u ∧ ∀ H, Rp K H p.2 y) : WDic K w d tb := by
  refine ⟨h, fun z v e => ?_⟩
  have hm : (z, v) ∈ tb := by
    clear g
    induction tb with
    | nil => cases e
    | cons p r ih =>
      obtain ⟨k, x⟩ := p
      have e : (if z = k then some x else look2 z r) = some v := e
      by_cases hz : z = k
      · rw [if_pos hz] at e
        cases e
        rw [hz]
        exact List.mem_cons_self
      · rw [if_neg hz] at e
        exact List.mem_cons_of_mem _ (ih e)
  exact g _ hm
end Hk
/-! Hk12: f-strings, texts searched and parted, the end of a list stored, classes as values. -/
namespace Hk
open PySem PySem.Spec PyProof.Rows L2 Evl
section
variable {X : Cx} {a b c e o value : Expr} {ta tb te to tv : TE} {ma mb m mo mv : M Vl} {es : List Expr} {tes : TA} {mes : M (List Vl)} {pos pos' p p2 p3 apos cpos : Pos} {C f x : Str} {n k : Nat} {fa : Addr} {fd : FuncData} {ps : List Str} {G : Fn} {CX : CXT} {E : XK}
/-! ### f-strings -/
def jsM : List (M Vl) → Str → M Vl
  | [], acc => retM (.d (.str acc))
  | m :: ms, acc => bindM m fun r => match r with
    | .d (.str y) => if (acc ++ y).length ≤ sizeLine then jsM ms (acc ++ y) else failM
    | _ => failM
inductive Jx (X : Cx) : List Expr → List TE → List (M Vl) → Prop
  | nil : Jx X [] [] []
  | cons {e : Expr} {t : TE} {m : M Vl} {es : List Expr} {ts : List TE} {ms : List (M Vl)} (h : Ex_ X e t m) (r : Jx X es ts ms) : Jx X (e :: es) (t :: ts) (m :: ms)
theorem Jx.pj {es : List Expr} {ts : List TE} {ms : List (M Vl)} (h : Jx X es ts ms) : PJ X es ts := by
  induction h with
  | nil => exact .nil
  | cons h r ih => exact .cons h.pe ih
theorem Jx.em {es : List Expr} {ts : List TE} {ms : List (M Vl)} (h : Jx X es ts ms) : ∀ (acc : Str) {μ : List Addr} {Hd H : Hp} {σ : L2.St} {E E' : En} {r : Vl}, Rl X.K μ Hd H σ E → jsM ms acc E = some (r, E') → ∀ Q : VK,
    (∀ μ' Hd' H' v, Gr μ Hd μ' Hd' → Rl X.K μ' Hd' H' σ E' → Rv X.K μ' Hd' r v → Q v H') → tJs ts acc σ H fun out H1 => Q (.str out) H1 := by
  induction h with
  | nil =>
    intro acc μ Hd H σ E E' r R e Q q
    cases e
    exact q μ Hd H _ (Gr.refl μ Hd) R rfl
  | cons h r ih =>
    intro acc μ Hd H σ E E' z R e Q q
    obtain ⟨v, E1, e1, e2⟩ := bindM_some e
    refine h.em R e1 _ fun μ1 Hd1 H1 vx g1 R1 r1 => ?_
    split at e2
    · rename_i y
      split at e2
      · rename_i hz
        exact ⟨y, r1, hz, ih _ R1 e2 Q fun μ2 Hd2 H2 v g2 R2 r2 => q μ2 Hd2 H2 v (g1.trans g2) R2 r2⟩
      · cases e2
    · cases e2
theorem xjs {v1 v2 : Expr} {rest : List Expr} {ts : List TE} {ms : List (M Vl)} (h : Jx X (v1 :: v2 :: rest) ts ms) : Ex_ X (.JoinedStr (v1 :: v2 :: rest) pos) (fun σ H Q => tJs ts Str.empty σ H fun out H1 => Q (.str out) H1) (jsM ms Str.empty) :=
  ⟨pe_joined h.pj, fun R e Q q => h.em _ R e Q q⟩
/-- a text in an f-string -/
def fmtM (m : M Vl) : M Vl := bindM m fun r => match r with
  | .d (.str y) => if y.length ≤ sizeLine then retM (.d (.str y)) else failM
  | _ => failM
theorem xfmt (h : Ex_ X e te m) : Ex_ X (.FormattedValue e (-1) none pos) (tFmt te) (fmtM m) := ⟨pe_fmt h.pe, fun {μ Hd H σ E r E'} R q Q k => by
  obtain ⟨x, E1, e1, e2⟩ := bindM_some q
  refine h.em R e1 _ fun μ1 Hd1 H1 vx g1 R1 r1 => ?_
  split at e2
  · rename_i y
    split at e2
    · rename_i hz
      cases e2
      exact .inl ⟨y, r1, hz, k μ1 Hd1 H1 _ g1 R1 rfl⟩
    · cases e2
  · cases e2⟩
/-! ### one sign in a text -/
/-! ### text.split(sep) -/
end
end Hk
/-! Hk13: the end of a list stored. -/
namespace Hk
open PySem PySem.Spec PyProof.Rows L2 Evl
section
variable {P0 : Program} {w0 : World} {A0 : Around} {E0 : Value → Shared → Prop} {s0 : Shared}
end
section
variable {X : Cx}
/-! ### o[-m:] = e -/
variable {o e lo : Expr} {to te : TE} {mo me : M Vl} {p2 p3 pos : Pos} {m : Nat}
end
end Hk
/-! Hk14: dicts; classes in slots, class methods; keys that are not in a written dict. -/
namespace Hk
open PySem PySem.Spec PyProof.Rows L2 Evl
/-! ### keys -/
def kGet (k : Key) : List Key → List Dt → Option Dt
  | j :: ks, d :: ds => if j = k then some d else kGet k ks ds
  | _, _ => none
def kHas (k : Key) (ks : List Key) : Bool := ks.any fun j => decide (j = k)
def kPutN (k : Key) (ks : List Key) : List Key := if kHas k ks = true then ks else ks ++ [k]
def kRep (k : Key) (d : Dt) : List Key → List Dt → List Dt
  | j :: ks, e :: ds => (if j = k then d else e) :: kRep k d ks ds
  | _, _ => []
def kPutD (k : Key) (d : Dt) (ks : List Key) (ds : List Dt) : List Dt := if kHas k ks = true then kRep k d ks ds else ds ++ [d]
section
variable {K : PySem.W.Frag} {H Hd : Hp}
theorem kGet_ok {k : Key} : ∀ {kvs : List (Key × V)} {ds : List Dt} {d : Dt}, RpA K H ds (kvs.map (·.2)) → kGet k (kvs.map (·.1)) ds = some d → ∃ v, valV kvs k = some v ∧ Rp K H d v
  | [], ds, d, _, e => by
    cases ds <;> cases e
  | (j, x) :: kvs, [], d, h, e => by cases e
  | (j, x) :: kvs, y :: ds, d, h, e => by
    obtain ⟨x', r, e0, h2, h3⟩ := h
    cases e0
    have e : (if j = k then some y else kGet k (kvs.map (·.1)) ds) = some d := e
    by_cases hj : j = k
    · rw [if_pos hj] at e
      cases e
      exact ⟨x, by unfold valV; simp [hj], h2⟩
    · rw [if_neg hj] at e
      obtain ⟨v, h4, h5⟩ := kGet_ok h3 e
      refine ⟨v, ?_, h5⟩
      rw [← h4]
      unfold valV
      simp [hj]
theorem kRep_ok {k : Key} {d : Dt} {v : V} (hv : Rp K H d v) : ∀ {kvs : List (Key × V)} {ds : List Dt}, RpA K H ds (kvs.map (·.2)) → RpA K H (kRep k d (kvs.map (·.1)) ds) ((kvs.map fun kv => if kv.1 = k then (kv.1, v) else kv).map (·.2))
  | [], ds, h => by
    cases ds <;> exact (rfl : ([] : List V) = [])
  | (j, x) :: kvs, [], h => by
    have := h.len
    simp at this
  | (j, x) :: kvs, y :: ds, h => by
    obtain ⟨x', r, e0, h2, h3⟩ := h
    cases e0
    have ih := kRep_ok hv h3 (k := k)
    by_cases hj : j = k
    · refine ⟨v, _, ?_, ?_, ih⟩
      · simp [hj]
      · show Rp K H (if j = k then d else y) v
        rw [if_pos hj]
        exact hv
    · refine ⟨x, _, ?_, ?_, ih⟩
      · simp [hj]
      · show Rp K H (if j = k then d else y) x
        rw [if_neg hj]
        exact h2
theorem any_has {k : Key} : ∀ kvs : List (Key × V), (kvs.any fun kv => decide (kv.1 = k)) = kHas k (kvs.map (·.1)) := fun kvs => by
  unfold kHas
  rw [List.any_map]
  rfl
theorem kPut_ok {k : Key} {d : Dt} {v : V} (hv : Rp K H d v) {kvs : List (Key × V)} {ds : List Dt} (h : RpA K H ds (kvs.map (·.2))) : (putK kvs k v).map (·.1) = kPutN k (kvs.map (·.1)) ∧ RpA K H (kPutD k d (kvs.map (·.1)) ds) ((putK kvs k v).map (·.2)) := by
  unfold putK kPutN kPutD
  rw [any_has]
  by_cases hm : kHas k (kvs.map (·.1)) = true
  · rw [if_pos hm, if_pos hm, if_pos hm]
    refine ⟨?_, kRep_ok hv h⟩
    rw [List.map_map]
    apply List.map_congr_left
    intro p _
    show (if p.1 = k then (p.1, v) else p).1 = p.1
    by_cases hp : p.1 = k
    · rw [if_pos hp]
    · rw [if_neg hp]
  · rw [if_neg hm, if_neg hm, if_neg hm]
    refine ⟨by simp, ?_⟩
    rw [List.map_append]
    exact h.app (RpA.one hv)
end
/-! ### {k: e, ..} -/
def keyV : Vl → Option Key
  | .d (.str s) => some (.inr s)
  | .d (.int i) => some (.inl i)
  | _ => none
theorem keyV_ok {K : PySem.W.Frag} {μ : List Addr} {Hd : Hp} {r : Vl} {v : V} {k : Key} (h : Rv K μ Hd r v) (e : keyV r = some k) : v = kV k := by
  cases r with
  | c j => cases e
  | t rs => cases e
  | z zs => cases e
  | g L j => cases e
  | d d =>
    cases d <;> first | (cases e; exact h) | cases e
def prsM : List (M Vl × M Vl) → M (List (Vl × Vl))
  | [] => retM []
  | (mk, mv) :: r => bindM mk fun x => bindM mv fun y => bindM (prsM r) fun xs => retM ((x, y) :: xs)
def keysV : List (Vl × Vl) → Option (List Key)
  | [] => some []
  | (x, _) :: r => match keyV x, keysV r with
    | some k, some ks => some (k :: ks)
    | _, _ => none
/-- many stores one behind the other -/
def mrgN : List Key → List Key → List Key
  | acc, [] => acc
  | acc, k :: r => mrgN (kPutN k acc) r
def mrgD : List Key → List Dt → List Key → List Dt → List Dt
  | ks, ds, k :: r, d :: es => mrgD (kPutN k ks) (kPutD k d ks ds) r es
  | _, ds, _, _ => ds
theorem mrg_ok {K : PySem.W.Frag} {H : Hp} : ∀ {more : List (Key × V)} {es : List Dt} {kvs : List (Key × V)} {ds : List Dt}, RpA K H es (more.map (·.2)) → RpA K H ds (kvs.map (·.2)) →
    (mergeK kvs more).map (·.1) = mrgN (kvs.map (·.1)) (more.map (·.1)) ∧ RpA K H (mrgD (kvs.map (·.1)) ds (more.map (·.1)) es) ((mergeK kvs more).map (·.2))
  | [], es, kvs, ds, h, g => by
    cases es with
    | nil => exact ⟨rfl, g⟩
    | cons e es =>
      obtain ⟨x, r, e0, _, _⟩ := h
      cases e0
  | (k, x) :: more, [], kvs, ds, h, g => by cases h
  | (k, x) :: more, e :: es, kvs, ds, h, g => by
    obtain ⟨x', r, e0, h2, h3⟩ := h
    cases e0
    obtain ⟨p1, p2⟩ := kPut_ok (k := k) h2 g
    obtain ⟨q1, q2⟩ := mrg_ok (kvs := putK kvs k x) h3 p2
    rw [p1] at q1 q2
    exact ⟨q1, q2⟩
def dspM (n : Nat) (ps : List (M Vl × M Vl)) : M Vl := fun E => match prsM ps ⟨E.sl, E.ce ++ [.dic [] []]⟩ with
  | some (xs, E1) => match keysV xs, fzA (xs.map (·.2)) E1 with
    | some ks, some (ds, E2) => match E2.ce[E.ce.length]? with
      | some (.dic [] []) => some (.c E.ce.length, ⟨E2.sl, E2.ce.set E.ce.length (.dic (mrgN [] ks) (mrgD [] [] ks ds))⟩)
      | _ => none
    | _, _ => none
  | none => none
/-- the parts -/
inductive Dpx (X : Cx) : List (Option Expr) → List Expr → List (TE × TE) → List (M Vl × M Vl) → Prop
  | nil : Dpx X [] [] [] []
  | cons {k v : Expr} {tk tv : TE} {mk mv : M Vl} {ks : List (Option Expr)} {vs : List Expr} {ts : List (TE × TE)} {ms : List (M Vl × M Vl)} (hk : Ex_ X k tk mk) (hv : Ex_ X v tv mv) (r : Dpx X ks vs ts ms) : Dpx X (some k :: ks) (v :: vs) ((tk, tv) :: ts) ((mk, mv) :: ms)
theorem Dpx.pp {X : Cx} {pos : Pos} {ks : List (Option Expr)} {vs : List Expr} {ts : List (TE × TE)} {ms : List (M Vl × M Vl)} (h : Dpx X ks vs ts ms) : PPs X pos ks vs ts := by
  induction h with
  | nil => exact pps_nil
  | cons hk hv r ih => exact pps_cons hk.pe hv.pe ih
theorem Dpx.len {X : Cx} {ks : List (Option Expr)} {vs : List Expr} {ts : List (TE × TE)} {ms : List (M Vl × M Vl)} (h : Dpx X ks vs ts ms) : ∀ {E E' : En} {xs : List (Vl × Vl)}, prsM ms E = some (xs, E') → xs.length = ms.length := by
  induction h with
  | nil =>
    intro E E' xs e
    cases e
    rfl
  | cons hk hv r ih =>
    intro E E' xs e
    obtain ⟨x, E1, e1, e2⟩ := bindM_some e
    obtain ⟨y, E2, e3, e4⟩ := bindM_some e2
    obtain ⟨zs, E3, e5, e6⟩ := bindM_some e4
    cases e6
    rw [List.length_cons, List.length_cons, ih e5]
theorem Dpx.em {X : Cx} {ks : List (Option Expr)} {vs : List Expr} {ts : List (TE × TE)} {ms : List (M Vl × M Vl)} (h : Dpx X ks vs ts ms) : ∀ {μ : List Addr} {Hd H : Hp} {σ : L2.St} {E E' : En} {xs : List (Vl × Vl)}, Rl X.K μ Hd H σ E → prsM ms E = some (xs, E') → ∀ Q : List (V × V) → Hp → Prop,
    (∀ μ' Hd' H' us ws, Gr μ Hd μ' Hd' → Rl X.K μ' Hd' H' σ E' → RvA X.K μ' Hd' (xs.map (·.1)) us → RvA X.K μ' Hd' (xs.map (·.2)) ws → us.length = ws.length → Q (us.zip ws) H') → tPairs ts σ H Q := by
  induction h with
  | nil =>
    intro μ Hd H σ E E' xs R e Q q
    cases e
    exact q μ Hd H [] [] (Gr.refl μ Hd) R .nil .nil rfl
  | cons hk hv r ih =>
    intro μ Hd H σ E E' xs R e Q q
    obtain ⟨x, E1, e1, e2⟩ := bindM_some e
    obtain ⟨y, E2, e3, e4⟩ := bindM_some e2
    obtain ⟨zs, E3, e5, e6⟩ := bindM_some e4
    cases e6
    refine hk.em R e1 _ fun μ1 Hd1 H1 u g1 R1 r1 => ?_
    refine hv.em R1 e3 _ fun μ2 Hd2 H2 w g2 R2 r2 => ?_
    refine ih R2 e5 _ fun μ3 Hd3 H3 us ws g3 R3 r3 r4 hl => ?_
    refine q μ3 Hd3 H3 (u :: us) (w :: ws) (g1.trans (g2.trans g3)) R3 (.cons (Rv.gr (g2.trans g3) r1) r3) (.cons (Rv.gr g3 r2) r4) (by rw [List.length_cons, List.length_cons, hl])
theorem keys_ok {K : PySem.W.Frag} {μ : List Addr} {Hd : Hp} : ∀ {xs : List (Vl × Vl)} {us : List V} {ks : List Key}, RvA K μ Hd (xs.map (·.1)) us → keysV xs = some ks → us = ks.map kV
  | [], us, ks, h, e => by
    cases h
    cases e
    rfl
  | (x, y) :: xs, us, ks, h, e => by
    cases h with
    | cons h1 h2 =>
      unfold keysV at e
      split at e
      · rename_i k ks' e1 e2
        cases e
        rw [List.map_cons, keyV_ok h1 e1, keys_ok h2 e2]
      · cases e
theorem zip_kV : ∀ (kk : List Key) (ws : List V), (kk.map kV).zip ws = (kk.zip ws).map (fun kv => (kV kv.1, kv.2))
  | [], ws => by simp
  | k :: kk, [] => by simp
  | k :: kk, w :: ws => by
    simp only [List.map_cons, List.zip_cons_cons]
    rw [zip_kV kk ws]
theorem xdsp {X : Cx} {pos : Pos} {ks : List (Option Expr)} {vs : List Expr} {ts : List (TE × TE)} {ms : List (M Vl × M Vl)} (h : Dpx X ks vs ts ms) (hall : ks.all (·.isSome) = true := by rfl) (hl : ks.length = vs.length := by rfl) (h0 : ks ≠ [] := by intro z; cases z) (h15 : ks.length ≤ 15 := by decide) (hm : ms.length ≤ 15 := by decide) :
    Ex_ X (.Dict ks vs pos) (tDisp ts) (dspM ms.length ms) := ⟨pe_disp h.pp hall hl h0 h15, fun {μ Hd H σ E z E'} R e Q q => by
  unfold dspM at e
  split at e
  · rename_i xs E1 e1
    split at e
    · rename_i kk ds E2 e2 e3
      split at e
      · rename_i e4
        cases e
        intro p hp
        obtain ⟨g0, R0, r0⟩ := R.newX (c := .dic [] []) (o := .dK []) hp ⟨[], rfl, rfl, (rfl : ([] : List V) = [])⟩
        refine h.em R0 e1 _ fun μ1 Hd1 H1 us ws g1 R1 r1 r2 hlen => ?_
        have ek := keys_ok r1 e2
        subst ek
        obtain ⟨Hd2, g2, R2, r3⟩ := fzA_ok R1 r2 e3
        obtain ⟨a, h1, h2⟩ := Rv.gr (g1.trans g2) r0
        cases h2
        obtain ⟨k1, o, k2, k3⟩ := R2.wo.at_ _ _ _ e4 h1 rfl
        obtain ⟨kvs, rfl, k4, k5⟩ := k3
        have kn : kvs = [] := by
          cases kvs with
          | nil => rfl
          | cons q r => cases k4
        subst kn
        have el : kk.length = ws.length := by rw [← hlen, List.length_map]
        have ep : (kk.map kV).zip ws = (kk.zip ws).map (fun kv => (kV kv.1, kv.2)) := zip_kV kk ws
        have m1 : (kk.zip ws).map (·.1) = kk := List.map_fst_zip (Nat.le_of_eq el)
        have m2 : (kk.zip ws).map (·.2) = ws := List.map_snd_zip (Nat.le_of_eq el.symm)
        have hx := h.len e1
        have hw : ws.length = xs.length := by
          rw [r2.len]
          simp
        refine ⟨k2, kk.zip ws, ep, by rw [List.length_zip]; omega, ?_⟩
        obtain ⟨q1, q2⟩ := mrg_ok (K := X.K) (H := Hd2) (more := kk.zip ws) (es := ds) (kvs := []) (ds := []) (by rw [m2]; exact r3) (rfl : ([] : List V) = [])
        rw [m1] at q1 q2
        refine q _ _ _ _ (g0.trans (g1.trans g2)) (R2.setX e4 rfl h1 ⟨_, rfl, q1, q2⟩) ?_
        exact ⟨p, h1, rfl⟩
      · cases e
    · cases e
  · cases e⟩
/-! ### d[k], k in d -/
/-- a dict as it is now: data, a cell, a locked cell -/
def seeK (ce : List Ce) : Vl → Option (List Key × List Dt)
  | .d (.dic ks ds) => some (ks, ds)
  | .c k => match ce[k]? with
    | some (.dic ks ds) => some (ks, ds)
    | some (.lkd ks ds) => some (ks, ds)
    | _ => none
  | _ => none
theorem seeK_ok {K : PySem.W.Frag} {Hd H : Hp} {μ : List Addr} {ce : List Ce} {r : Vl} {v : V} {ks : List Key} {ds : List Dt} (w : Wo K μ Hd H ce) (hv : Rv K μ Hd r v) (h : seeK ce r = some (ks, ds)) : ∃ a kvs, v = .ref a ∧ Rd H a (.dK kvs) ∧ kvs.map (·.1) = ks ∧ RpA K Hd ds (kvs.map (·.2)) := by
  cases r with
  | t rs => cases h
  | z zs => cases h
  | g L j => cases h
  | d d' =>
    cases d' <;> first
      | (cases h; done)
      | (cases h
         obtain ⟨a, kvs, h1, h2, h3, h4⟩ := hv
         exact ⟨a, kvs, h1, exs_d w.ex h2, h3, h4⟩)
  | c k =>
    obtain ⟨a, ha, rfl⟩ := hv
    have h : (match ce[k]? with
      | some (.dic ks ds) => some (ks, ds)
      | some (.lkd ks ds) => some (ks, ds)
      | _ => none) = some (ks, ds) := h
    split at h
    · rename_i ks' ds' e
      cases h
      obtain ⟨h1, o, h2, h3⟩ := w.at_ k _ a e ha rfl
      obtain ⟨kvs, rfl, h4, h5⟩ := h3
      exact ⟨a, kvs, rfl, .inl h2, h4, h5⟩
    · rename_i ks' ds' e
      cases h
      obtain ⟨⟨od, kvs, h1, h2, h3⟩, _⟩ := w.lk k a _ _ e ha
      exact ⟨a, kvs, rfl, .inr ⟨od, w.ex a _ h1⟩, h2, h3⟩
    · cases h
def dgM (mo mi : M Vl) : M Vl := bindM mo fun x => bindM mi fun y => fun E => match seeK E.ce x, keyV y with
  | some (ks, ds), some k => (kGet k ks ds).map fun d => (.d d, E)
  | _, _ => none
section
variable {X : Cx} {a b c e o i : Expr} {ta tb te to ti : TE} {ma mb m mo mi : M Vl} {es : List Expr} {tes : TA} {mes : M (List Vl)} {pos p p2 apos : Pos} {C x : Str} {n k : Nat} {fa : Addr} {fd : FuncData} {ps : List Str} {G : Fn} {CX : CXT} {E : XK}
theorem xdg {kk : Nat} (hr : Room kk X.A) (ho : Ex_ X o to mo) (hi : Ex_ X i ti mi) (hs : NoSl i := by intro _ _; rfl) : Ex_ X (.Subscript o i pos) (tDGet to ti) (dgM mo mi) := ⟨pe_dget (by have := hr.units; omega) ho.pe hi.pe hs, fun {μ Hd H σ E r E'} R q Q k => by
  obtain ⟨x, E1, e1, e2⟩ := bindM_some q
  obtain ⟨y, E2, e3, e4⟩ := bindM_some e2
  refine ho.em R e1 _ fun μ1 Hd1 H1 v g1 R1 r1 => ?_
  refine hi.em R1 e3 _ fun μ2 Hd2 H2 w g2 R2 r2 => ?_
  split at e4
  · rename_i ks ds kq s1 s2
    cases e5 : kGet kq ks ds with
    | none =>
      rw [e5] at e4
      cases e4
    | some d =>
      rw [e5] at e4
      cases e4
      obtain ⟨a, kvs, rfl, h1, rfl, h3⟩ := seeK_ok R2.wo (Rv.gr g2 r1) s1
      obtain ⟨u, h4, h5⟩ := kGet_ok h3 e5
      have ey := keyV_ok r2 s2
      refine ⟨a, u, rfl, .inl ⟨kvs, kq, h1, ey, h4.symm⟩, k _ _ _ _ (g1.trans g2) R2 h5⟩
  · cases e4⟩
end
section
variable {X : Cx} {a b c e o i : Expr} {ta tb te to ti : TE} {ma mb m mo mi : M Vl} {es : List Expr} {tes : TA} {mes : M (List Vl)} {pos p p2 apos : Pos} {C x : Str} {n k : Nat} {fa : Addr} {fd : FuncData} {ps : List Str} {G : Fn} {CX : CXT} {E : XK}
/-! ### a class in a slot -/
/-! ### C.m(..), m a class method -/
/-! ### keys that are not in a written dict -/
def ADic (K : PySem.W.Frag) (d : Addr) (tb : List (Str × Dt)) : Prop := ∀ z, look2 z tb = none → PySem.W.nsIn K d z = some none
def inAM (neg : Bool) (tb : List (Str × Dt)) (ma : M Vl) : M Vl := bindM ma fun y => match y with
  | .d (.str z) => fun E => some (.d (.bl (if (look2 z tb).isSome = true then !neg else neg)), E)
  | _ => failM
theorem inAM_some {neg : Bool} {tb : List (Str × Dt)} {ma : M Vl} {E E' : En} {r : Vl} (e : inAM neg tb ma E = some (r, E')) : ∃ z, ma E = some (.d (.str z), E') ∧ ((∃ v, look2 z tb = some v ∧ r = .d (.bl (!neg))) ∨ (look2 z tb = none ∧ r = .d (.bl neg))) := by
  obtain ⟨y, E1, e1, e2⟩ := bindM_some e
  split at e2
  · rename_i z
    cases e2
    cases e3 : look2 z tb with
    | some v => exact ⟨z, e1, .inl ⟨v, e3, rfl⟩⟩
    | none => exact ⟨z, e1, .inr ⟨e3, rfl⟩⟩
  · cases e2
theorem tinA {x : Str} {d : Addr} {tb0 : List (Str × Dt)} (D : WDic X.K X.w d tb0) (N : ADic X.K d tb0) (hm : X.mg x = some (.ref d)) (ha : Ex_ X a ta ma) (hk : behindInMarks .In (.Name x p) = false := by rfl) (hg : Gl X x := by rfl) (hdb : (x == ("__debug__" : Str)) = false := by decide) :
    Tx X (.Compare a [.In] [.Name x p] pos) (tTest (tOp (fun x y H Q => ∃ (z : Str) (r : Option Value), x = .str z ∧ y = .ref d ∧ PySem.W.nsIn X.K d z = some r ∧ Q (.bl r.isSome) H) ta (tC (.ref d)))) (bindM (inAM false tb0 ma) boolM) :=
  ⟨pt_cmpR (by
    obtain ⟨es, n, kd⟩ := D.at_
    exact op_in_kd kd) ha.pe (pe_glob hg hm (v := .ref d) rfl hdb) hk, tm_test fun {μ Hd H σ E r E'} R e Q q => by
    obtain ⟨z, e1, cs⟩ := inAM_some e
    refine ha.em R e1 _ fun μ1 Hd1 H1 vy g1 R1 r1 => ?_
    rcases cs with ⟨v, e2, rfl⟩ | ⟨hz, rfl⟩
    · obtain ⟨u, y, h1, h2, h3⟩ := D.tab z v e2
      exact ⟨z, some u, r1, rfl, h1, q μ1 Hd1 H1 _ g1 R1 rfl⟩
    · exact ⟨z, none, r1, rfl, N z hz, q μ1 Hd1 H1 _ g1 R1 rfl⟩⟩
theorem adic_mk {K : PySem.W.Frag} {d : Addr} {tb : List (Str × Dt)} {es : Array DictEntry} {n : Nat} {ts : List Tok} (v : K.lookup d = some ⟨.type "dict", none, .dict es n, #[]⟩) (hk : es.toList.map (·.key) = List.zipWith (fun (p : Str × Dt) t => Value.str p.1 t) tb ts) (hl : tb.length = ts.length) : ADic K d tb := fun z hz => by
  have h1 : ∀ {l : List DictEntry} {tb : List (Str × Dt)} {ts : List Tok}, l.map (·.key) = List.zipWith (fun (p : Str × Dt) t => Value.str p.1 t) tb ts → tb.length = ts.length → look2 z tb = none → l.find? (·.key.isStr z) = none ∧ l.any (·.refKey) = false := by
    intro l
    induction l with
    | nil => intro tb ts _ _ _; exact ⟨rfl, rfl⟩
    | cons e l ih =>
      intro tb ts h hl hz
      cases tb with
      | nil => simp at h
      | cons p tb =>
        cases ts with
        | nil => simp at hl
        | cons t ts =>
          simp only [List.map_cons, List.zipWith_cons_cons, List.cons.injEq] at h
          obtain ⟨k, x⟩ := p
          have hz : (if z = k then some x else look2 z tb) = none := hz
          by_cases hzk : z = k
          · rw [if_pos hzk] at hz
            cases hz
          · rw [if_neg hzk] at hz
            obtain ⟨i1, i2⟩ := ih h.2 (by simpa using hl) hz
            have hk0 : e.key = Value.str k t := h.1
            constructor
            · rw [List.find?_cons, i1]
              have : e.key.isStr z = false := by
                rw [hk0]
                show (k == z) = false
                exact beq_eq_false_iff_ne.mpr fun q => hzk q.symm
              rw [this]
            · rw [List.any_cons, i2, Bool.or_false]
              unfold DictEntry.refKey
              rw [hk0]
  unfold PySem.W.nsIn
  rw [v]
  obtain ⟨i1, i2⟩ := h1 hk hl hz
  simp only [i1, i2]
  rfl
end
end Hk
/-! Hk15: loops over dicts: the dict is locked while they run. -/
namespace Hk
open PySem PySem.Spec PyProof.Rows L2 Evl
section
variable {K : PySem.W.Frag} {μ : List Addr} {Hd Hd' H : Hp}
/-! ### a live dict -/
end
end Hk
/-! Hk16: for and comprehensions over a dict. -/
namespace Hk
open PySem PySem.Spec PyProof.Rows L2 Evl
section
variable {K : PySem.W.Frag} {μ : List Addr} {Hd H : Hp}
end
section
variable {X : Cx} {iter tg : Expr} {td : TE} {ms : M Vl} {g : TG} {gm : Vl → En → Option En} {ts : TS} {m : En → Option Rs} {sts : List Stmt} {pos : Pos}
end
end Hk
/-! Hk17: comprehensions that make dicts; comprehensions over dicts. -/
namespace Hk
open PySem PySem.Spec PyProof.Rows L2 Evl
def pairM (mk mv : M Vl) : M (Vl × Dt) := bindM mk fun x => bindM mv fun y => bindM (fzM y) fun z => retM (x, z)
def dcL (own : List Nat) (k : Nat) (g : Vl → En → Option En) (t : M Bool) (mk mv : M Vl) : List Dt → En → Option En
  | [], E => some E
  | d :: ds, E => match g (.d d) (wipeE own E) with
    | some E1 => match t E1 with
      | some (true, E2) => match pairM mk mv E2 with
        | some ((x, z), E4) => match keyV x, E4.ce[k]? with
          | some kk, some (.dic ks es) => if ks.length < 100000 then dcL own k g t mk mv ds ⟨E4.sl, E4.ce.set k (.dic (kPutN kk ks) (kPutD kk z ks es))⟩ else none
          | _, _ => none
        | none => none
      | some (false, E2) => dcL own k g t mk mv ds E2
      | none => none
    | none => none
def dcompM (own : List Nat) (i : M (List Dt)) (g : Vl → En → Option En) (t : M Bool) (mk mv : M Vl) : M Vl := fun E => match i E with
  | some (ds, E1) => match dcL own E1.ce.length g t mk mv ds ⟨E1.sl, E1.ce ++ [.dic [] []]⟩ with
    | some E2 => some (.c E1.ce.length, ⟨bring E1.sl E2.sl own, E2.ce⟩)
    | none => none
  | none => none
section
variable {K : PySem.W.Frag}
theorem dcomp_at {own : List Nat} {g : TG} {gm : Vl → En → Option En} {tt : TT} {mt : M Bool} {tk tv : TE} {mk mv : M Vl} (hg : GcM K own g gm) (ht : TM K tt mt) (hkey : EM K tk mk) (hval : EM K tv mv) {μ1 : List Addr} {Hd1 H1 : Hp} {σ : L2.St} {E1 E2 : En} {J : It} {ds : List Dt} (R1 : Rl K μ1 Hd1 H1 σ E1) (sv : Serves J K Hd1 ds)
    (q2 : dcL own E1.ce.length gm mt mk mv ds ⟨E1.sl, E1.ce ++ [.dic [] []]⟩ = some E2) (Q : VK) (q : ∀ μ' Hd' H' v, Gr μ1 Hd1 μ' Hd' → Rl K μ' Hd' H' σ ⟨bring E1.sl E2.sl own, E2.ce⟩ → Rv K μ' Hd' (.c E1.ce.length) v → Q v H') : tDc (fun σ H R => R J H) g tt tk tv own σ H1 Q := by
  intro D hD
  obtain ⟨g2, R2, r2⟩ := R1.newX (c := .dic [] []) (o := .dK []) hD ⟨[], rfl, rfl, (rfl : ([] : List V) = [])⟩
  have hk : (μ1 ++ [D])[E1.ce.length]? = some D := by
    rw [← R1.wo.len]
    simp
  refine ⟨fun i n H' => ∃ μ' Hd' E', Gr (μ1 ++ [D]) Hd1 μ' Hd' ∧ Rl K μ' Hd' H' (L2.wipe σ own) (wipeE own E') ∧ n = ds.length - i ∧ dcL own E1.ce.length gm mt mk mv (ds.drop i) E' = some E2,
    ⟨_, μ1 ++ [D], Hd1, ⟨E1.sl, E1.ce ++ [Ce.dic [] []]⟩, Gr.refl _ _, ⟨R2.wo, R2.sl.wipe own⟩, rfl, q2⟩, fun i n H' hw => ?_⟩
  obtain ⟨μ', Hd', E3, g3, R3, ek, q3⟩ := hw
  cases hd : ds.drop i with
  | nil =>
    rw [hd] at q3
    cases q3
    have hl : ds.length ≤ i := by
      have := congrArg List.length hd
      rw [List.length_drop] at this
      simp at this
      omega
    refine .inl ⟨(sv Hd' H' i g3.ex R3.wo.ex).1 hl, q μ' Hd' H' _ (g2.trans g3) ⟨R3.wo, ?_⟩ ⟨D, g3.pre _ _ hk, rfl⟩⟩
    exact Sl.bring ((R1.sl.gr g2).gr g3) R3.sl
  | cons x rest =>
    rw [hd] at q3
    obtain ⟨hx, hr⟩ := drop_cons hd
    have hl : i < ds.length := (List.getElem?_eq_some_iff.mp hx).1
    obtain ⟨s1, s2⟩ := sv.new R3 g3.ex hx
    refine .inr ⟨s1, fun H2 => ∃ m', m' < n ∧ ∃ μ2 Hd2 E4, Gr (μ1 ++ [D]) Hd1 μ2 Hd2 ∧ Rl K μ2 Hd2 H2 (L2.wipe σ own) (wipeE own E4) ∧ m' = ds.length - (i + 1) ∧ dcL own E1.ce.length gm mt mk mv (ds.drop (i + 1)) E4 = some E2, fun _ h => h, fun v H3 hy => ?_⟩
    obtain ⟨Hd4, g4, R4, r4⟩ := s2 v H3 hy
    unfold dcL at q3
    cases q4 : gm (.d x) (wipeE own E3) with
    | none =>
      rw [q4] at q3
      cases q3
    | some E5 =>
      rw [q4] at q3
      refine hg R4 (r := .d x) r4 q4 _ fun μ5 Hd5 H5 σ5 g5 R5 w5 => ⟨w5.trans (by rw [wipe_wipe]), ?_⟩
      have gg := (g3.trans g4).trans g5
      cases q5 : mt E5 with
      | none =>
        simp only [q5] at q3
        cases q3
      | some p =>
        obtain ⟨b, E6⟩ := p
        simp only [q5] at q3
        refine ht R5 q5 _ fun μ6 Hd6 H6 g6 R6 => ?_
        cases b with
        | false =>
          show ∃ m', _
          refine ⟨ds.length - (i + 1), by omega, μ6, Hd6, E6, gg.trans g6, ⟨R6.wo, ?_⟩, rfl, by rw [hr]; exact q3⟩
          have := R6.sl.wipe own
          rw [w5, wipe_wipe] at this
          exact this
        | true =>
          show tk σ5 H6 _
          cases q6 : pairM mk mv E6 with
          | none =>
            simp only [q6] at q3
            cases q3
          | some p =>
            obtain ⟨⟨y, z⟩, E7⟩ := p
            simp only [q6] at q3
            obtain ⟨y', E8, e8, e9⟩ := bindM_some q6
            obtain ⟨u, E9, e10, e11⟩ := bindM_some e9
            obtain ⟨z', E10, e12, e13⟩ := bindM_some e11
            cases e13
            split at q3
            · rename_i kk ks es q7 q8
              split at q3
              · rename_i hz
                refine hkey R6 e8 _ fun μ7 Hd7 H7 w7 g7 R7 r7 => ?_
                refine hval R7 e10 _ fun μ8 Hd8 H8 w8 g8 R8 r8 => ?_
                obtain ⟨Hd9, g9, R9, r9⟩ := fzM_ok R8 r8 e12
                have gall := (((gg.trans g6).trans g7).trans g8).trans g9
                have hD8 := gall.pre _ _ hk
                obtain ⟨c1, o, c2, kvs, rfl, c3, c4⟩ := R9.wo.at_ _ _ _ q8 hD8 rfl
                have ey := keyV_ok r7 q7
                have hlen : kvs.length = ks.length := by rw [← c3, List.length_map]
                obtain ⟨p1, p2⟩ := kPut_ok (k := kk) r9 c4
                refine ⟨kvs, kk, ey, c2, by rw [hlen]; exact sz_lt hz, ds.length - (i + 1), by omega, μ8, Hd9, _, gall, ⟨?_, ?_⟩, rfl, by rw [hr]; exact q3⟩
                · rw [c3] at p1 p2
                  exact (R9.setX (c' := .dic (kPutN kk ks) (kPutD kk z ks es)) (o := .dK (putK kvs kk _)) q8 rfl hD8 ⟨_, rfl, p1, p2⟩).wo
                · have := R9.sl.wipe own
                  rw [w5, wipe_wipe] at this
                  exact this
              · cases q3
            · cases q3
theorem em_dcomp {own : List Nat} {wi : TI} {mi : M (List Dt)} {g : TG} {gm : Vl → En → Option En} {tt : TT} {mt : M Bool} {tk tv : TE} {mk mv : M Vl} (hi : IM K wi mi) (hg : GcM K own g gm) (ht : TM K tt mt) (hkey : EM K tk mk) (hval : EM K tv mv) : EM K (tDc wi g tt tk tv own) (dcompM own mi gm mt mk mv) := fun {μ Hd H σ E r E'} R e Q q => by
  unfold dcompM at e
  split at e
  · rename_i ds E1 q1
    split at e
    · rename_i E2 q2
      cases e
      exact hi R q1 _ fun μ1 Hd1 H1 J g1 R1 sv => dcomp_at hg ht hkey hval R1 sv q2 Q fun μ' Hd' H' v g2 R2 r2 => q μ' Hd' H' v (g1.trans g2) R2 r2
    · cases e
  · cases e
/-! ### over a dict -/
end
section
variable {X : Cx} {elt kx vx tg iter e : Expr} {ifs : List Expr} {te td tk tv : TE} {m ms mk mv : M Vl} {pos spos py : Pos} {scope : Scope} {own : List (Str × Nat)} {g : TG} {gm : Vl → En → Option En} {tt : TT} {mt : M Bool}
/-- {k: v for ..} -/
theorem xdcomp {wi : TI} {mi : M (List Dt)} (hc : X.calm = true) (hN : X.N.Nodup) (hi : Ix_ X tg iter wi mi) (ok : BlkOk X.N X.env.scope scope own)
    (hg : ∀ (s : Shared) (H : Hp) (C : Addr) (cl : List (Str × Addr)) (fp : List Addr), Gc (X.blk s H scope (compEnvC scope cl C X.env) fp) (own.map (·.2)) tg g gm)
    (ht : ∀ (s : Shared) (H : Hp) (C : Addr) (cl : List (Str × Addr)) (fp : List Addr), Px (X.blk s H scope (compEnvC scope cl C X.env) fp) ifs tt mt)
    (hk : ∀ (s : Shared) (H : Hp) (C : Addr) (cl : List (Str × Addr)) (fp : List Addr), Ex_ (X.blk s H scope (compEnvC scope cl C X.env) fp) kx tk mk)
    (hv : ∀ (s : Shared) (H : Hp) (C : Addr) (cl : List (Str × Addr)) (fp : List Addr), Ex_ (X.blk s H scope (compEnvC scope cl C X.env) fp) vx tv mv) (hs : ∀ x, foldedSetIterable iter X.env x = pure x := by intro _; rfl) :
    Ex_ X (.DictComp kx vx [⟨tg, iter, ifs, 0⟩] scope pos) (tDc wi g tt tk tv (own.map (·.2))) (dcompM (own.map (·.2)) mi gm mt mk mv) :=
  ⟨pe_dc hc hN hi.pi ok (fun s H C cl fp => (hg s H C cl fp).pg) (fun s H C cl fp => (ht s H C cl fp).pt) (fun s H C cl fp => (hk s H C cl fp).pe) (fun s H C cl fp => (hv s H C cl fp).pe) hs,
   em_dcomp hi.im (hg X.s_0 X.H_0 0 [] []).gm (ht X.s_0 X.H_0 0 [] []).tm (hk X.s_0 X.H_0 0 [] []).em (hv X.s_0 X.H_0 0 [] []).em⟩
end
end Hk
/-! Hk18: stores into dicts, empty dicts, dicts of instances gone through, sorted keys and texts. -/
namespace Hk
open PySem PySem.Spec PyProof.Rows L2 Evl
/-! ### texts in order -/
def leS (a b : Str) : Bool := !ltCps b.cps.toList a.cps.toList
theorem leS_iff {a b : Str} : leS a b = true ↔ ¬ b.cps.toList < a.cps.toList := by
  unfold leS
  rw [ltCps_eq]
  simp
theorem leS_trans {a b c : Str} (h1 : leS a b = true) (h2 : leS b c = true) : leS a c = true := by
  rw [leS_iff] at *
  exact List.le_trans (l₁ := a.cps.toList) (l₂ := b.cps.toList) h1 h2
theorem leS_total (a b : Str) : (leS a b || leS b a) = true := by
  rw [Bool.or_eq_true, leS_iff, leS_iff]
  rcases List.le_total a.cps.toList b.cps.toList with h | h
  · exact .inl h
  · exact .inr h
theorem leS_anti {a b : Str} (h1 : leS a b = true) (h2 : leS b a = true) : a = b := by
  rw [leS_iff] at *
  have := List.le_antisymm (as := a.cps.toList) (bs := b.cps.toList) h1 h2
  exact Str.ext' (Array.toList_inj.mp this)
def sortS (l : List Str) : List Str := l.mergeSort leS
theorem sortS_perm (l : List Str) : (sortS l).Perm l := List.mergeSort_perm l leS
theorem sortS_le (l : List Str) : (sortS l).Pairwise (fun a b => leS a b = true) := List.pairwise_mergeSort (le := leS) (fun _ _ _ h1 h2 => leS_trans h1 h2) leS_total l
theorem rising_le : ∀ (p : Str) (l : List Str), risingS p l = true → (p :: l).Pairwise (fun a b => leS a b = true)
  | p, [], _ => List.pairwise_singleton _ _
  | p, x :: r, h => by
    have h' : leS p x = true ∧ risingS x r = true := by
      have : (leS p x && risingS x r) = true := h
      exact Bool.and_eq_true_iff.mp this
    have ih := rising_le x r h'.2
    refine List.pairwise_cons.mpr ⟨fun y hy => ?_, ih⟩
    rcases List.mem_cons.mp hy with rfl | hy
    · exact h'.1
    · exact leS_trans h'.1 ((List.pairwise_cons.mp ih).1 y hy)
theorem sorted_le (l : List Str) (h : sortedS l = true) : l.Pairwise (fun a b => leS a b = true) := by
  cases l with
  | nil => exact .nil
  | cons x r => exact rising_le x r h
theorem le_unique : ∀ (l m : List Str), l.Perm m → l.Pairwise (fun a b => leS a b = true) → m.Pairwise (fun a b => leS a b = true) → l = m
  | [], m, hp, _, _ => hp.nil_eq
  | x :: l, [], hp, _, _ => hp.symm.nil_eq.symm
  | x :: l, y :: m, hp, h1, h2 => by
    have e : x = y := by
      have hx : x ∈ y :: m := hp.subset (List.mem_cons_self ..)
      have hy : y ∈ x :: l := hp.symm.subset (List.mem_cons_self ..)
      rcases List.mem_cons.mp hx with e | hx
      · exact e
      · rcases List.mem_cons.mp hy with e | hy
        · exact e.symm
        · exact leS_anti ((List.pairwise_cons.mp h1).1 y hy) ((List.pairwise_cons.mp h2).1 x hx)
    subst e
    rw [le_unique l m hp.cons_inv (List.pairwise_cons.mp h1).2 (List.pairwise_cons.mp h2).2]
theorem sort_unique {ys l : List Str} (hp : ys.Perm l) (h : sortedS ys = true) : ys = sortS l :=
  le_unique _ _ (hp.trans (sortS_perm l).symm) (sorted_le _ h) (sortS_le l)
/-! ### sorted -/
def rSortedDU : List V → Hp → VK → Prop := fun xs H Q => ∃ (a : Addr) (kvs : List (Key × V)) (ks : List Str), xs = [.ref a] ∧ Rd H a (.dK kvs) ∧ kvs.map (·.1) = ks.map Sum.inr ∧ ks.length < 64 ∧
    ∀ ys p, ys.Perm ks → sortedS ys = true → H p = none → Q (.ref p) (upd H p (.lst (ys.map V.str)))
theorem call_sortedDU {X : Cx} (h : X.calm = true) : CallR X (.builtin "sorted") rSortedDU := call_sortedD h
def texts : List Key → Option (List Str)
  | [] => some []
  | .inr s :: r => (texts r).map (s :: ·)
  | .inl _ :: _ => none
theorem texts_ok : ∀ {ks : List Key} {ss : List Str}, texts ks = some ss → ks = ss.map Sum.inr
  | [], ss, h => by cases h; rfl
  | .inr s :: r, ss, h => by
    obtain ⟨t, h1, rfl⟩ := Option.map_eq_some_iff.mp h
    rw [texts_ok h1]; rfl
  | .inl _ :: _, _, h => by cases h
def sortDF : List Vl → M Vl := fun xs E => match xs with
  | [x] => match (seeK E.ce x).bind fun p => texts p.1 with
    | some ss => if ss.length < 64 then newL ((sortS ss).map .str) E else none
    | none => none
  | _ => none
theorem rp_strV {K : PySem.W.Frag} {H : Hp} : ∀ l : List Str, RpA K H (l.map Dt.str) (l.map V.str)
  | [] => rfl
  | s :: l => ⟨.str s, l.map V.str, rfl, rfl, rp_strV l⟩
theorem cm_sortD {K : PySem.W.Frag} : CM K rSortedDU sortDF := fun {μ Hd H σ E xs vs z E'} R hx e Q q => by
  unfold sortDF at e
  split at e
  · rename_i x
    split at e
    · rename_i ss e1
      split at e
      · rename_i hl
        obtain ⟨v, rfl, h1⟩ := hx.one
        obtain ⟨⟨ks, ds⟩, e2, e3⟩ := Option.bind_eq_some_iff.mp e1
        obtain ⟨a, kvs, rfl, h2, h3, h4⟩ := seeK_ok R.wo h1 e2
        refine ⟨a, kvs, ss, rfl, h2, by rw [h3]; exact texts_ok e3, hl, fun ys p hp hs hn => ?_⟩
        rw [sort_unique hp hs]
        obtain ⟨g, R', r'⟩ := newL_ok R (rp_strV _) e hn
        exact q _ _ _ _ g R' r'
      · cases e
    · cases e
  · cases e
def strsD : List Dt → Option (List Str)
  | [] => some []
  | .str s :: r => (strsD r).map (s :: ·)
  | _ :: _ => none
theorem strsD_ok : ∀ {ds : List Dt} {ss : List Str}, strsD ds = some ss → ds = ss.map Dt.str
  | [], ss, h => by cases h; rfl
  | d :: r, ss, h => by
    cases d with
    | str s =>
      obtain ⟨t, h1, rfl⟩ := Option.map_eq_some_iff.mp h
      rw [strsD_ok h1]; rfl
    | _ => cases h
theorem strs_rp {K : PySem.W.Frag} {H : Hp} : ∀ {l : List Str} {vs : List V}, RpA K H (l.map Dt.str) vs → vs = l.map V.str
  | [], vs, h => h
  | s :: l, vs, h => by
    obtain ⟨x, r, rfl, h1, h2⟩ := h
    rw [strs_rp h2]
    cases (show x = .str s from h1)
    rfl
/-! ### stores, empty dicts, dicts of instances -/
section
variable {X : Cx} {e o i : Expr} {te to ti td : TE} {m mo mi ms : M Vl} {pos p3 : Pos}
end
end Hk
/-! Hk19: zip and enumerate. -/
namespace Hk
open PySem PySem.Spec PyProof.Rows L2 Evl
def lstD : Dt → Option (List Dt)
  | .lst xs => some xs
  | .sq xs => some xs
  | _ => none
def tupD : Dt → Option (List Dt)
  | .tup xs => some xs
  | _ => none
theorem sql_of {K : PySem.W.Frag} {H : Hp} {a : Addr} {xs : List V} (h : H a = some (.lst xs)) : SqL K H a xs := .inl (.inl h)
theorem sqt_of {K : PySem.W.Frag} {H : Hp} {a : Addr} {xs : List V} (h : H a = some (.tup xs)) : SqT K H a xs := .inl (.inl h)
theorem lstD_ok {K : PySem.W.Frag} {H : Hp} {d : Dt} {v : V} {xs : List Dt} (h : lstD d = some xs) (r : Rp K H d v) : ∃ a vs, v = .ref a ∧ SqL K H a vs ∧ RpA K H xs vs := by
  cases d with
  | lst ys =>
    cases h
    obtain ⟨a, vs, h1, h2, h3⟩ := r
    exact ⟨a, vs, h1, sql_of h2, h3⟩
  | sq ys =>
    cases h
    exact r
  | _ => cases h
theorem tupD_ok {K : PySem.W.Frag} {H : Hp} {d : Dt} {v : V} {xs : List Dt} (h : tupD d = some xs) (r : Rp K H d v) : ∃ a vs, v = .ref a ∧ SqT K H a vs ∧ RpA K H xs vs := by
  cases d with
  | tup ys =>
    cases h
    exact r
  | _ => cases h
theorem exl {K : PySem.W.Frag} {H H' : Hp} {a : Addr} {xs : List V} (e : Ex H H') (h : SqL K H a xs) : SqL K H' a xs := by
  rcases h with (h | ⟨o, h⟩) | h
  · exact .inl (.inl (e a _ h))
  · exact .inl (.inr ⟨o, e a _ h⟩)
  · exact .inr h
theorem ext {K : PySem.W.Frag} {H H' : Hp} {a : Addr} {xs : List V} (e : Ex H H') (h : SqT K H a xs) : SqT K H' a xs := by
  rcases h with (h | ⟨o, h⟩) | h
  · exact .inl (.inl (e a _ h))
  · exact .inl (.inr ⟨o, e a _ h⟩)
  · exact .inr h
/-- a new tuple of two -/
theorem pair_new {K : PySem.W.Frag} {Hd H : Hp} {T : Addr} {x y : V} {d c : Dt} (e : ExS Hd H) (hT : H T = none) (h1 : Rp K Hd d x) (h2 : Rp K Hd c y) :
    Rp K (upd Hd T (.tup [x, y])) (.tup [d, c]) (.ref T) := by
  have n : Hd T = none := by
    cases q : Hd T with
    | none => rfl
    | some u =>
      have := e T u q
      rw [hT] at this
      cases this
  have ee : Ex Hd (upd Hd T (.tup [x, y])) := fun b u q => by
    by_cases hb : b = T
    · subst hb
      rw [n] at q
      cases q
    · rw [upd_ne hb]
      exact q
  exact ⟨T, [x, y], rfl, sqt_of upd_same, x, [y], rfl, Rp.ex ee _ _ h1, y, [], rfl, Rp.ex ee _ _ h2, rfl⟩
def zipD (ds es : List Dt) : List Dt := List.zipWith (fun d c => .tup [d, c]) ds es
theorem zipD_at {ds es : List Dt} {i : Nat} {d : Dt} (h : (zipD ds es)[i]? = some d) : ∃ x y, ds[i]? = some x ∧ es[i]? = some y ∧ d = .tup [x, y] := by
  unfold zipD at h
  rw [List.getElem?_zipWith] at h
  cases h1 : ds[i]? with
  | none =>
    rw [h1] at h
    cases h
  | some x =>
    cases h2 : es[i]? with
    | none =>
      rw [h1, h2] at h
      cases h
    | some y =>
      rw [h1, h2] at h
      cases h
      exact ⟨x, y, rfl, rfl, rfl⟩
theorem zipD_len {ds es : List Dt} {i : Nat} (h : (zipD ds es).length ≤ i) : ds.length ≤ i ∨ es.length ≤ i := by
  unfold zipD at h
  rw [List.length_zipWith] at h
  omega
theorem serves_z {K : PySem.W.Frag} {Hd : Hp} {a b : Addr} {ds es : List Dt} {us vs : List V} (h1 : SqL K Hd a us) (r1 : RpA K Hd ds us) (h2 : SqL K Hd b vs) (r2 : RpA K Hd es vs) : Serves (Itz K a b) K Hd (zipD ds es) := fun Hd1 H1 i e1 e2 => by
  have g1 := exs_l e2 (exl e1 h1)
  have g2 := exs_l e2 (exl e1 h2)
  refine ⟨fun q => ⟨us, vs, g1, g2, by rw [r1.len, r2.len]; exact zipD_len q⟩, fun d q => ?_⟩
  obtain ⟨x, y, q1, q2, rfl⟩ := zipD_at q
  obtain ⟨u, w1, w2⟩ := RpA.at r1 q1
  obtain ⟨v, w3, w4⟩ := RpA.at r2 q2
  refine ⟨⟨us, vs, u, v, g1, g2, w1, w3⟩, fun z H' ⟨T, u', v', z1, z2, z3, z4, z5⟩ => ?_⟩
  cases Option.some.inj ((z4 us g1).symm.trans w1)
  cases Option.some.inj ((z5 vs g2).symm.trans w3)
  subst z1
  exact ⟨_, .inr ⟨T, _, z2, rfl, z3, rfl⟩, pair_new e2 z2 (Rp.ex e1 _ _ w2) (Rp.ex e1 _ _ w4)⟩
theorem serves_zt {K : PySem.W.Frag} {Hd : Hp} {a b : Addr} {ds es : List Dt} {us vs : List V} (h1 : SqT K Hd a us) (r1 : RpA K Hd ds us) (h2 : SqT K Hd b vs) (r2 : RpA K Hd es vs) : Serves (RZ.ItzT K a b) K Hd (zipD ds es) := fun Hd1 H1 i e1 e2 => by
  have g1 := exs_t e2 (ext e1 h1)
  have g2 := exs_t e2 (ext e1 h2)
  refine ⟨fun q => ⟨us, vs, g1, g2, by rw [r1.len, r2.len]; exact zipD_len q⟩, fun d q => ?_⟩
  obtain ⟨x, y, q1, q2, rfl⟩ := zipD_at q
  obtain ⟨u, w1, w2⟩ := RpA.at r1 q1
  obtain ⟨v, w3, w4⟩ := RpA.at r2 q2
  refine ⟨⟨us, vs, u, v, g1, g2, w1, w3⟩, fun z H' ⟨T, u', v', z1, z2, z3, z4, z5⟩ => ?_⟩
  cases Option.some.inj ((z4 us g1).symm.trans w1)
  cases Option.some.inj ((z5 vs g2).symm.trans w3)
  subst z1
  exact ⟨_, .inr ⟨T, _, z2, rfl, z3, rfl⟩, pair_new e2 z2 (Rp.ex e1 _ _ w2) (Rp.ex e1 _ _ w4)⟩
/-- two lists, or two tuples -/
def zipF (d c : Dt) : Option (List Dt) := match lstD d, lstD c with
  | some xs, some ys => some (zipD xs ys)
  | _, _ => match tupD d, tupD c with
    | some xs, some ys => some (zipD xs ys)
    | _, _ => none
def zipM (m : M (List Vl)) : M (List Dt) := bindM m fun rs => match rs with
  | [x, y] => bindM (fzM x) fun d => bindM (fzM y) fun c => fun E => (zipF d c).map fun l => (l, E)
  | _ => failM
section
variable {X : Cx} {a b : Expr} {es : List Expr} {tes : TA} {mes : M (List Vl)} {pos : Pos}
theorem izip {elts : List Expr} {kk : Nat} {p tpos : Pos} (hm : X.mg "zip" = none) (ha : Ax X [a, b] tes mes) (hg : Gl X "zip" := by rfl) (hs : starEach [a, b] X.env = (false, eval a X.env) :: starEach [b] X.env := by rfl) (hpl : (backTo pos (starEach [b] X.env)).any (·.1) = false := by rfl) :
    Ix_ X (.Tuple elts kk tpos) (.Call (.Name "zip" p) [a, b] [] pos) (RZ.iZipA X.K tes) (zipM mes) := ⟨RZ.pi_zipA hg hm ha.pa hs hpl, fun {μ Hd H σ E ds E'} R e Q q => by
  obtain ⟨rs, E1, e1, e2⟩ := bindM_some e
  refine ha.am R e1 _ fun μ1 Hd1 H1 vs g1 R1 r1 => ?_
  split at e2
  · rename_i x y _
    obtain ⟨v, w, rfl, h1, h2⟩ := r1.two
    obtain ⟨d, E2, e3, e2⟩ := bindM_some e2
    obtain ⟨c, E3, e4, e2⟩ := bindM_some e2
    obtain ⟨l, e5, e6⟩ := Option.map_eq_some_iff.mp e2
    cases e6
    obtain ⟨Hd2, g2, R2, r2⟩ := fzM_ok R1 h1 e3
    obtain ⟨Hd3, g3, R3, r3⟩ := fzM_ok R2 (Rv.gr g2 h2) e4
    have r2' := Rp.ex g3.ex _ _ r2
    unfold zipF at e5
    split at e5
    · rename_i xs ys q1 q2
      cases e5
      obtain ⟨a1, us, rfl, s1, s2⟩ := lstD_ok q1 r2'
      obtain ⟨a2, ws, rfl, s3, s4⟩ := lstD_ok q2 r3
      exact ⟨a1, a2, us, ws, rfl, .inl ⟨exs_l R3.wo.ex s1, exs_l R3.wo.ex s3, q _ _ _ _ ((g1.trans g2).trans g3) R3 (serves_z s1 s2 s3 s4)⟩⟩
    · split at e5
      · rename_i xs ys q1 q2
        cases e5
        obtain ⟨a1, us, rfl, s1, s2⟩ := tupD_ok q1 r2'
        obtain ⟨a2, ws, rfl, s3, s4⟩ := tupD_ok q2 r3
        exact ⟨a1, a2, us, ws, rfl, .inr ⟨exs_t R3.wo.ex s1, exs_t R3.wo.ex s3, q _ _ _ _ ((g1.trans g2).trans g3) R3 (serves_zt s1 s2 s3 s4)⟩⟩
      · cases e5
  · cases e2⟩
end
end Hk
/-! Hk20: pairs as targets of comprehensions. -/
namespace Hk
open PySem PySem.Spec PyProof.Rows L2 Evl
section
variable {X : Cx} {e : Expr} {es : List Expr} {pos : Pos} {own : List Nat}
structure Gcs (X : Cx) (own : List Nat) (es : List Expr) (t : TGs) (gs : List (Vl → En → Option En)) : Prop where
  pg : PGs X es t
  gm : GcsM X.K own t gs
theorem gcnil : Gcs X own [] gNil [] := ⟨pgs_nil, gcsm_nil⟩
theorem gccons {t : TG} {u : TGs} {g : Vl → En → Option En} {gs : List (Vl → En → Option En)} (h1 : Gc X own e t g) (h2 : Gcs X own es u gs) (hs : (assignEach (e :: es) X.env).map (·.2) = assign e X.env :: (assignEach es X.env).map (·.2) := by rfl) : Gcs X own (e :: es) (gCons t u) (g :: gs) := ⟨pgs_cons h1.pg h2.pg hs, gcsm_cons h1.gm h2.gm⟩
theorem gctup {t : TGs} {gs : List (Vl → En → Option En)} {n k : Nat} (hc : X.calm = true) (h : Gcs X own es t gs) (hl : gs.length = n) (hn : (assignEach es X.env).length = n := by rfl) (hst : (assignEach es X.env).findIdx? (·.1) = none := by rfl) : Gc X own (.Tuple es k pos) (gTup X.K n t) (tupG gs) := ⟨pg_tup hc h.pg hn hst, gcm_tup hl h.gm⟩
end
end Hk
/-! Hk21: sorted of a set comprehension of which nothing comes. -/
namespace Hk
open PySem PySem.Spec PyProof.Rows L2 Evl
section
variable {X : Cx} {elt tg iter : Expr} {ifs : List Expr} {te : TE} {m : M Vl} {pos p cpos : Pos} {scope : Scope} {own : List (Str × Nat)} {wi : TI} {mi : M (List Dt)} {g : TG} {gm : Vl → En → Option En} {tt : TT} {mt : M Bool}
end
end Hk
/-! Hk22: max(list of ints, default=..). -/
namespace Hk
open PySem PySem.Spec PyProof.Rows L2 Evl
section
variable {prog : Program} {w : World} {A : Around} {R : Result → Shared → Prop} {I : Addr} {fp wr : List Addr} {n : Nat} {P : Nat → Value → Prop} {St : Nat → Heap → Prop}
end
section
variable {prog : Program} {w : World} {A : Around} {E : Value → Shared → Prop} {s : Shared}
end
/-- a list that is seen -/
def lstS (ce : List Ce) (r : Vl) : Option (List Dt) := (see ce r).bind lstD
theorem lstS_ok {K : PySem.W.Frag} {μ : List Addr} {Hd H : Hp} {ce : List Ce} {r : Vl} {v : V} {ds : List Dt} (w : Wo K μ Hd H ce) (hv : Rv K μ Hd r v) (h : lstS ce r = some ds) : ∃ a vs, v = .ref a ∧ SqL K H a vs ∧ RpA K Hd ds vs := by
  obtain ⟨d, h1, h2⟩ := Option.bind_eq_some_iff.mp h
  cases d with
  | lst xs =>
    cases h2
    obtain ⟨a, us, e1, e2, e3⟩ := see_lst w hv h1
    exact ⟨a, us, e1, sql_of e2, e3⟩
  | sq xs =>
    cases h2
    exact see_sq w hv h1
  | _ => cases h2
section
variable {X : Cx} {a b : Expr} {ta tb : TE} {ma mb : M Vl} {p pos kpos : Pos}
end
end Hk
/-! Hk23: {**a, **b}. -/
namespace Hk
open PySem PySem.Spec L2 Evl
section
variable {prog : Program} {w : World} {K : Type} [DecidableEq K] {knd : KeyKind prog w K} {A : Around} {E : Value → Shared → Prop} {s : Shared}
end
section
variable {X : Cx} {pos : Pos} {x y : Expr} {tx ty : TE}
end
end Hk
/-! Hk24: name = {k: v for ..}. -/
namespace Hk
open PySem PySem.Spec PyProof.Rows L2 Evl
section
variable {X : Cx} {kx vx tg iter : Expr} {ifs : List Expr} {tk tv td : TE} {mk mv ms : M Vl} {pos spos py : Pos} {scope : Scope} {own : List (Str × Nat)} {wi : TI} {mi : M (List Dt)} {g : TG} {gm : Vl → En → Option En} {tt : TT} {mt : M Bool} {y : Str}
end
end Hk
/-! Hk25: bits of ints, written words, small things. -/
namespace Hk
open PySem PySem.Spec PyProof.Rows L2 Evl
section
variable {K : PySem.W.Frag} {X : Cx} {e : Expr} {te te' : TE} {pos : Pos}
end
end Hk
/-! Hk26: t[:0:-1] of a tuple. -/
namespace Hk
open PySem PySem.Spec PyProof.Rows HT L2 Evl
section
variable {prog : Program} {w : World} {A : Around} {E : Value → Shared → Prop} {s : Shared}
theorem adj_back (n : Nat) : Builtin.Slice.sliceAdjust none (some 0) (-1) (n : Int) = ((n : Int) - 1, min 0 ((n : Int) - 1)) := by
  unfold Builtin.Slice.sliceAdjust
  rfl
theorem plc_back (n : Nat) : Builtin.Slice.slicePlaces ((n : Int) - 1) (min 0 ((n : Int) - 1)) (-1) = n - 1 := by
  unfold Builtin.Slice.slicePlaces
  have h1 : ¬ ((-1 : Int) > 0) := by decide
  have h2 : (- (-1) : Int) = 1 := by decide
  simp only [h1, if_false, h2, Int.ediv_one]
  split <;> omega
theorem fm_congr {α β : Type} {f g : α → Option β} : ∀ {l : List α}, (∀ a ∈ l, f a = g a) → l.filterMap f = l.filterMap g
  | [], _ => rfl
  | x :: l, h => by
    rw [List.filterMap_cons, List.filterMap_cons, h x (List.mem_cons_self ..), fm_congr fun a ha => h a (List.mem_cons_of_mem _ ha)]
theorem pick_back (xs : Array Value) : ((List.range (xs.size - 1)).filterMap fun (m : Nat) => xs[(((xs.size : Int) - 1) + (m : Int) * (-1)).toNat]?).toArray = (xs.toList.drop 1).reverse.toArray := by
  congr 1
  have e : ∀ (m : Nat), m ∈ List.range (xs.size - 1) → xs[(((xs.size : Int) - 1) + (m : Int) * (-1)).toNat]? = ((xs.toList.drop 1).reverse)[m]? := fun m hm => by
    have hm := List.mem_range.mp hm
    have l : (xs.toList.drop 1).length = xs.size - 1 := by simp
    rw [List.getElem?_reverse (by rw [l]; exact hm), List.getElem?_drop, Array.getElem?_toList, l]
    congr 1
    omega
  rw [fm_congr e]
  have l : (xs.toList.drop 1).reverse.length = xs.size - 1 := by simp
  rw [← l]
  generalize (xs.toList.drop 1).reverse = ys
  have := PySem.W.krv_all ys.toArray
  simpa using this
theorem app_back {sl : Addr} {vl vu vs : Value} {n : Nat} {Q : Int × Int × Nat → Shared → Prop} (hs : s.heap.IsSliceOf sl vl vu vs) (pl : IsPart vl none) (pu : IsPart vu (some 0)) (ps : IsPart vs (some (-1))) (h : Q (((n : Int) - 1), -1, n - 1) s) : wpAny (model prog w) A (Builtin.Slice.sliceApplied (.ref sl) (pure (n : Int))) Q E s := by
  obtain ⟨o, h1, h2, h3⟩ := id hs
  unfold Builtin.Slice.sliceApplied Builtin.Slice.sliceFields
  refine wpAny_bind (wpAny_bind (wpAny_field h1 h3 (x := vl) rfl (wpAny_bind (wpAny_field h1 h3 (x := vu) rfl (wpAny_bind (wpAny_field h1 h3 (x := vs) rfl (wpAny_pure ?_)))))))
  refine wpAny_bind (slicePart_ ps ?_)
  show wpAny _ _ (if ((-1 : Int) == 0) = true then _ else _) _ _ s
  rw [if_neg (by decide)]; refine wpAny_bind (slicePart_ pl (wpAny_bind (slicePart_ pu (wpAny_bind (wpAny_pure ?_)))))
  show wpAny _ _ (match Builtin.Slice.sliceAdjust none (some 0) (-1) (n : Int) with | (lo, hi) => pure (lo, (-1 : Int), Builtin.Slice.slicePlaces lo hi (-1))) _ _ s
  rw [adj_back]
  show wpAny _ _ (pure ((n : Int) - 1, (-1 : Int), Builtin.Slice.slicePlaces ((n : Int) - 1) (min 0 ((n : Int) - 1)) (-1))) _ _ s
  rw [plc_back]
  exact wpAny_pure h
theorem get_back {t sl : Addr} {items : Array Value} {vl vu vs : Value} {Q : Value → Shared → Prop} (ht : IsTup s.heap t items) (hs : s.heap.IsSliceOf sl vl vu vs) (pl : IsPart vl none) (pu : IsPart vu (some 0)) (ps : IsPart vs (some (-1))) (hz : items.size ≤ sizeLine)
    (h : Q (.ref s.heap.objs.size) { s with heap := s.heap.push { cls := .type "tuple", data := .seq (items.toList.drop 1).reverse.toArray } }) : wpAny (model prog w) A (getItem (.ref t) (.ref sl)) Q E s := by
  have ok : sizeOk (.seq (items.toList.drop 1).reverse.toArray) := by
    show ((items.toList.drop 1).reverse.toArray).size ≤ sizeLine
    simp
    omega
  obtain ⟨o, h1, h2, h3⟩ := id hs
  have hT : s.TypeIs (.ref sl) "slice" := ⟨o, h1, h2⟩
  unfold getItem
  try with_reducible refine wpAny_holding ?_
  first | refine wpAny_bind (wpAny_pure ?_) | skip
  refine wpAny_bind (wpAny_sequenceKey ht.typeIs (by decide) ?_); refine wpAny_bind (wpAny_callSpecial?_slot (name := Str.ofString "__getitem__") ht.typeIs PyProof.Rows.slot_tuple_getitem (wpAny_call_entry PyProof.Rows.slot_tuple_getitem ht.typeIs entry_tuple_getitem ?_ (args_tuple_getitem _ _)))
  show wpAny _ _ (Builtin.Tuple.tupleItemsOf (.ref t) >>= _) _ _ s
  refine wpAny_bind (tupleItemsOf_ ht (wpAny_bind (wpAny_typeOf hT ?_)))
  rw [if_pos (by decide)]; refine wpAny_bind (app_back hs pl pu ps ?_)
  have no : ¬ (((((items.size : Int) - 1) == 0) && ((-1 : Int) == 1) && (items.size - 1 == items.size)) = true) := by simp
  show wpAny _ _ (if (((((items.size : Int) - 1) == 0) && ((-1 : Int) == 1) && (items.size - 1 == items.size)) = true) then _ else _) _ _ s
  rw [if_neg no, pick_back]
  first
    | exact wpAny_bind (m := Builtin.Tuple.tupleExact _) (wpAny_newObj_type (wpAny_pure ⟨_, rfl, wpAny_pure h⟩) ok)
    | exact wpAny_bind (m := Builtin.Tuple.tupleExact _) (wpAny_newObj_type (wpAny_bind (wpAny_pure (wpAny_pure ⟨_, rfl, wpAny_pure h⟩))) ok)
    | exact wpAny_bind (wpAny_bind (m := Builtin.Tuple.tupleExact _) (wpAny_newObj_type (wpAny_pure (wpAny_pure ⟨_, rfl, wpAny_pure h⟩)) ok))
    | exact wpAny_bind (wpAny_bind (m := Builtin.Tuple.tupleExact _) (wpAny_newObj_type (wpAny_pure ⟨_, rfl, wpAny_pure h⟩) ok))
end
section
variable {X : Cx} {e : Expr} {te : TE} {m : M Vl} {k k0 : Nat} {p0 p1 p2 p3 pos : Pos}
/-- t[:0:-1] -/
def tBack (K : PySem.W.Frag) (te : TE) : TE := fun σ H Q => te σ H fun x H1 => ∃ a xs, x = .ref a ∧ SqT K H1 a xs ∧ ∀ p, H1 p = none → Q (.ref p) (upd H1 p (.tup (xs.drop 1).reverse))
theorem vals_drop {xs : List V} {vs : List Value} (r : Vals xs vs) : Vals (xs.drop 1) (vs.drop 1) := by
  cases r with
  | nil => exact .nil
  | cons h t => exact t
theorem pe_back (he : PE X e te) : PE X (.Subscript e (.Slice none (some (.Constant (.int 0) k0 p0)) (some (.UnaryOp .USub (.Constant (.int 1) k p1) p2)) p3) pos) (tBack X.K te) := by
  refine ⟨fun pins s σ H Q I h => ?_⟩
  refine Subscript_ (thn (he.run pins s σ H _ I h) fun v s1 ⟨x, H1, I1, r1, a, xs, ex, hx, q⟩ => ?_)
  subst ex
  cases r1
  have zr : PO X (some (.Constant (.int 0) k0 p0)) (tPart (tC (.int 0))) := po_some pe_int
  have mi : PO X (some (.UnaryOp .USub (.Constant (.int 1) k p1) p2)) (tPart (tUn (rU fun i => .int (-i)) (tC (.int 1)))) := po_some (pe_un un_neg pe_int)
  refine wpAny_Slice (thn (po_none.run pins s1 σ H1 (fun o K2 => o = none ∧ K2 = H1) I1 ⟨rfl, rfl⟩) fun vl s2 ⟨l, H2, I2, pl, e1, e2⟩ => ?_)
  subst e1 e2
  refine thn (zr.run pins s2 σ H2 (fun o K3 => o = some 0 ∧ K3 = H2) I2 ⟨0, rfl, rfl, rfl⟩) fun vu s3 ⟨u, H3, I3, pu, e1, e2⟩ => ?_
  subst e1 e2
  refine thn (mi.run pins s3 σ H3 (fun o K4 => o = some (-1) ∧ K4 = H3) I3 ⟨1, rfl, -1, rfl, rfl, rfl⟩) fun vs s4 ⟨o, H4, I4, ps, e1, e2⟩ => ?_
  subst e1 e2
  have I5 : L2.Inv X pins σ H4 { s4 with heap := s4.heap.push { cls := .type "slice", data := .fields #[vl, vu, vs] } } := I4.kept (t' := s4.toks) fun b ob z => Heap.get?_push_of_some _ z
  obtain ⟨its, r, ht, hz⟩ := I5.tuple hx
  have hl := r.length
  show wpAny (model X.prog X.w) X.A (subscriptTail e (.Slice none (some (.Constant (.int 0) k0 p0)) (some (.UnaryOp .USub (.Constant (.int 1) k p1) p2)) p3) (.ref a) (.ref s4.heap.objs.size)) (EP X pins σ Q) X.xe { s4 with heap := s4.heap.push { cls := .type "slice", data := .fields #[vl, vu, vs] } }
  refine tail_any (ops := [.ref a, .ref s4.heap.objs.size]) ht.typeIs (PyProof.Rows.slot_tuple_getitem.lookup) ?_ (by with_unfolding_all rfl)
  refine get_back ht (Heap.IsSliceOf.new _ vl vu vs) pl pu ps (by rw [List.size_toArray]; omega) ?_
  refine ⟨.ref _, _, I5.laid (t' := s4.toks) (o := .tup (xs.drop 1).reverse) (fun b ob z => Heap.get?_push_of_some _ z) (Nat.le_refl _) ?_, rfl, q _ (I5.hok.fresh (Nat.le_refl _))⟩
  refine ⟨by rw [List.length_reverse, List.length_drop]; omega, _, (vals_drop r).reverse, _, Heap.get?_push_size _ rfl, rfl, 0, ?_⟩
  simp
def backM (m : M Vl) : M Vl := bindM m fun x => fun E => match see E.ce x with
  | some (.tup ds) => some (.d (.tup (ds.drop 1).reverse), E)
  | _ => none
theorem xback (h : Ex_ X e te m) : Ex_ X (.Subscript e (.Slice none (some (.Constant (.int 0) k0 p0)) (some (.UnaryOp .USub (.Constant (.int 1) k p1) p2)) p3) pos) (tBack X.K te) (backM m) := ⟨pe_back h.pe, fun {μ Hd H σ E r E'} R e Q q => by
  obtain ⟨x, E1, e1, e2⟩ := bindM_some e
  refine h.em R e1 _ fun μ1 Hd1 H1 v g1 R1 r1 => ?_
  split at e2
  · rename_i ds e3
    cases e2
    obtain ⟨a, us, rfl, h2, h3⟩ := see_tup R1.wo r1 e3
    refine ⟨a, us, rfl, h2, fun p hp => ?_⟩
    obtain ⟨g2, R2⟩ := R1.newD (o := .tup (us.drop 1).reverse) hp rfl
    have h4 : RpA X.K Hd1 ds us := by
      obtain ⟨b, ws, e5, e6, e7⟩ := see_flat r1 e3
      cases e5
      exact h3
    exact q _ _ _ _ (g1.trans g2) R2 ⟨p, _, rfl, sqt_of upd_same, RpA.ex g2.ex _ _ (RpA.rev (RpA.drop 1 h4))⟩
  · cases e2⟩
end
end Hk
/-! Hk27: t.index(x) of a tuple of flat things. -/
namespace Hk
open PySem PySem.Spec PyProof.Rows L2 Evl
section
variable {X : Cx}
variable {e o : Expr} {es : List Expr} {to : TE} {mo : M Vl} {tes : TA} {mes : M (List Vl)} {apos cpos : Pos}
end
end Hk
/-! Hk28: shifts. -/
namespace Hk
open PySem PySem.Spec PyProof.Rows L2 Evl
section
variable {K : PySem.W.Frag}
instance : ∀ i j, Decidable (CShl i j) := fun i j => by unfold CShl; infer_instance
instance : ∀ i j : Int, Decidable ((fun _ j => 0 ≤ j : Int → Int → Prop) i j) := fun i j => by show Decidable (0 ≤ j); infer_instance
end
end Hk
/-! Hk29: dict(list of pairs), d.get. -/
namespace Hk
open PySem PySem.Spec PyProof.Rows L2 Evl
/-! ### d.get(k, x) -/
section
variable {X : Cx} {o a b : Expr} {td ta tb : TE} {md ma mb : M Vl} {apos cpos : Pos}
end
end Hk
/-! Hk30: tuples that hold cells. -/
namespace Hk
open PySem PySem.Spec PyProof.Rows L2 Evl
section
variable {X : Cx} {es : List Expr} {e : Expr} {tes : TA} {mes : M (List Vl)} {pos : Pos}
end
end Hk
/-! Hk31: dicts whose keys are tuples. -/
namespace Hk
open PySem PySem.Spec PyProof.Rows L2 Evl
section
variable {K : PySem.W.Frag} {H Hd : Hp}
end

section
variable {X : Cx} {a b e o i : Expr} {ta tb te to ti : TE} {ma mb m mo mi : M Vl} {pos p3 : Pos}
end
end Hk
/-! Hk32: dicts whose keys are tuples: in, not in, stores. -/
namespace Hk
open PySem PySem.Spec PyProof.Rows L2 Evl
section
variable {X : Cx} {a b e o i : Expr} {ta tb te to ti : TE} {ma mb m mo mi : M Vl} {pos p3 : Pos}
end
end Hk
/-! Hk33: exceptions as data: made, their fields, isinstance. -/
namespace Hk
open PySem PySem.Spec PyProof.Rows L2 Evl
section
variable {K : PySem.W.Frag} {te ta : TE} {m ma : M Vl}
end
section
variable {X : Cx} {a e : Expr} {ta te : TE} {ma m : M Vl} {pos p p2 p3 kpos : Pos} {x y par f : Str} {CX : CXT} {k : Nat} {fI : Addr} {fd : FuncData}
end
end Hk
/-! Hk34: the facts of exception classes, put together. -/
namespace Hk
open PySem PySem.Spec PyProof.Rows L2 Evl NdefX
end Hk
/-! Hk35: str(n). -/
namespace Hk
open PySem PySem.Spec PyProof.Rows L2 Evl
end Hk
/-! Hk36: xs.extend(t), t a tuple. -/
namespace Hk
open PySem PySem.Spec PyProof.Rows L2 Evl
open PySem.AutoSeq1 in
theorem ext_tup (l : Addr) (items : Array Value) (n : Nat) (b : Addr) (items2 : Array Value) (n2 : Nat) (dd : Option Addr) (sl : Array (Option Value)) (h0 : ¬(!items.isEmpty && Builtin.List.listTooLong (items.size + items2.size)) = true) (h1 : items.size ≤ sizeLine) (h2 : items.size + items2.size ≤ sizeLine + 1) :
    Meets (Builtin.«list.extend» ⟨[.ref l, .ref b], []⟩) (fun _ R s => s.heap.get? l = some { cls := .type "list", dict := none, data := .seq items n, slots := #[] } ∧ s.heap.get? b = some { cls := .type "tuple", dict := dd, data := .seq items2 n2, slots := sl } ∧ R (.ok (.ret Value.none)) { s with heap := s.heap.update l (Obj.mapSeq fun x => x ++ items2), toks := s.toks }) :=
  .of_wp fun prog w A R s h => by
    obtain ⟨hp, g, d, tk, os⟩ := s; obtain ⟨hl, hb, h⟩ := h; have f1 := idx_int; have f2 := AutoSeq1.sub_tuple_tuple; have f3 := AutoSeq1.sub_list_list; have f4 := AutoSeq1.sub_tuple_list; have f5 := AutoSeq1.sub_list_tuple
    have hz : (items ++ items2).size ≤ sizeLine + 1 := by rw [Array.size_append]; exact h2
    wp_walk using (wpAny_updateSeq hl rfl (hz := h1) (_hz' := hz)), wpAny_loadPart' hl, wpAny_loadPart' hb; exact ⟨_, rfl, h⟩
def rExtT (K : PySem.W.Frag) : V → List V → Hp → VK → Prop := fun x vs H Q => ∃ l b xs zs, x = .ref l ∧ vs = [.ref b] ∧ H l = some (.lst xs) ∧ SqT K H b zs ∧ xs.length + zs.length ≤ 100000 ∧ Q .non (upd H l (.lst (xs ++ zs)))
theorem mt_extT {X : Cx} : MtM X "list.extend" (rExtT X.K) := by
  intro pins s σ H x vs v us Q I rx rv h
  obtain ⟨l, b, xs, zs, rfl, rfl, hH, hB, hz, q⟩ := h
  cases rx
  obtain ⟨u, rfl, ru⟩ := rv.one
  cases ru
  obtain ⟨z, its, n, r, hl, e⟩ := I.lstM hH
  obtain ⟨its2, r2, pl, _⟩ := I.tuple hB
  obtain ⟨⟨c0, dd, d0, sl⟩, e2, hc, n2, hd⟩ := pl
  simp only at hc hd
  subst hc
  subst hd
  have y1 := r.length
  have y2 := r2.length
  have hsz : its.toArray.size + its2.toArray.size ≤ sizeLine := by
    rw [List.size_toArray, List.size_toArray, sizeLine_eq]
    omega
  have hlong : ¬ (!its.toArray.isEmpty && Builtin.List.listTooLong (its.toArray.size + its2.toArray.size)) = true := by
    rw [notLongL hsz, Bool.and_false]
    exact Bool.false_ne_true
  refine call_meets F.slot_list_extend ⟨_, e, rfl⟩ F.entry_list_extend (F.args_list_extend_2 _ _) (ext_tup l its.toArray n b its2.toArray n2 dd sl hlong (by omega) (by omega)) ⟨e, e2, ?_⟩
  refine ⟨.non, _, I.lset (its' := its ++ its2) hH e (by simp) (r.append r2) ?_, rfl, q⟩
  rw [List.length_append, sizeLine_eq]
  omega
abbrev rExt2 (K : PySem.W.Frag) : V → List V → Hp → VK → Prop := fun x vs H Q => rExtend x vs H Q ∨ rExtT K x vs H Q
theorem mt_ext2 {X : Cx} : MtM X "list.extend" (rExt2 X.K) := fun pins s σ H x vs v us Q I rx rv h => h.elim (mt_extend pins s σ H x vs v us Q I rx rv) (mt_extT pins s σ H x vs v us Q I rx rv)
def extF2 : Vl → List Vl → M Vl := fun x xs => match xs with
  | [r] => fun E => match see E.ce r with
    | some (.tup ds) => onC (fun acc => if acc.length + ds.length ≤ 100000 then some (.non, acc ++ ds) else none) x E
    | _ => extF x xs E
  | _ => failM
theorem mm_ext2 {K : PySem.W.Frag} : MM K "list" (rExt2 K) extF2 := fun {μ Hd H σ E x vx xs vs z E'} R hx hxs e Q q => by
  unfold extF2 at e
  split at e
  · rename_i r
    split at e
    · rename_i ds e1
      right
      obtain ⟨v, rfl, hv⟩ := hxs.one
      obtain ⟨b, us, rfl, h2, h3⟩ := see_tup R.wo hv e1
      obtain ⟨k, acc, d2, ys, rfl, e3, e4, rfl, rfl⟩ := onC_some e
      split at e4
      · rename_i hz
        cases e4
        obtain ⟨a, ha, rfl⟩ := hx
        obtain ⟨c1, ws, c2, c3⟩ := R.wo.lst e3 ha
        obtain ⟨b', us', hb', _, h3'⟩ := see_flat hv e1
        cases hb'
        exact ⟨a, b, ws, us, rfl, rfl, c2, h2, by rw [c3.len, h3.len]; exact hz, q _ _ _ _ (Gr.refl μ Hd) (R.setC e3 ha (c3.app h3)) rfl⟩
      · cases e4
    · exact .inl (mm_extend R hx hxs e Q q)
  · cases e
end Hk
/-! Hk37: what a piece raises: the judgements beside those of what it does. -/
namespace Hk
open PySem PySem.Spec PyProof.Rows L2 Evl
section
variable (K : PySem.W.Frag) (W : XK)
end
section
variable {X : Cx} {W : XK} {a b c e o tg iter : Expr} {ta tb tc te to : TE} {ma mb mc m mo : M Vl} {pos : Pos} {tt : TT} {mt : M Bool} {st : Stmt} {sts rest : List Stmt} {ts tu : TS} {ms mu : En → Option Rs} {es : List Expr} {tes : TA} {mes : M (List Vl)} {x x1 x2 xa xi : Xm}
/-! ### statements -/
/-! ### expressions -/
variable {y f : Str} {n k : Nat} {fa : Addr} {fd : FuncData} {ps : List Str} {G : Fn} {Gx : Fx} {CX : CXT} {p p2 apos : Pos}
/-! ### raise C() -/
end
/-! ### a def that may raise -/
theorem passF {X : Cx} : Passes (L2.CX X.prog X.w) X (fun _ _ _ => False) := fun pins σ H s e s' I ⟨_, _, _, _, _, _, _, _, _, _, _, _, h⟩ => h.elim
/-! ### try: .. except C: return a written thing -/
end Hk
/-! Hk38: texts: list(t), enumerate(t), t * n. -/
namespace Hk
open PySem PySem.Spec PyProof.Rows L2 Evl
/-! ### t * n -/
/-! ### enumerate(t) -/
end Hk
/-! Hk39: & | ^ of truths. -/
namespace Hk
open PySem PySem.Spec PyProof.Rows L2 Evl
section
variable {X : Cx}
end
end Hk
/-! Hk40: tuples that are known to have no dict of their own: tuple(..), slices, +; t.index(x) of them. -/
namespace Hk
open PySem PySem.Spec PyProof.Rows L2 Evl
section
variable {X : Cx} {pins : List (Addr × Obj)} {σ : L2.St} {H : Hp}
end
/-! ### over data -/
section
variable {K : PySem.W.Frag} {μ : List Addr} {Hd H : Hp} {σ : L2.St} {E : En}
end
section
variable {X : Cx} {a : Expr} {lo hi : Option Expr} {ta : TE} {ma : M Vl} {pos : Pos}
end
section
variable {X : Cx} {e : Expr} {te : TE} {m : M Vl}
end
/-! ### t.index(x) -/
section
variable {X : Cx}
variable {e o : Expr} {es : List Expr} {to : TE} {mo : M Vl} {tes : TA} {mes : M (List Vl)} {apos cpos : Pos}
end
end Hk
/-! Hk41: & | ^ of ints and truths mixed. -/
namespace Hk
open PySem PySem.Spec PyProof.Rows L2 Evl
/-! ### the right one's type is a subtype with an own reflected method: it comes first -/
section
variable {M : Model} {A : Around} {E : Value → Shared → Prop} {s : Shared}
end
section
variable {X : Cx}
end
end Hk
/-! Hk42: sets of texts that are walked: made by a comprehension, handed to sorted. -/
namespace Hk
open PySem PySem.Spec PyProof.Rows L2 Evl
/-- the payload of a set holds the texts l, each once, and can be gone through -/
structure TxR (P : Program) (w : World) (D : Froz.SD) (l : List Str) : Prop where
  ok : Froz.TxOk P w D l
  nd : l.Nodup
  ris : Ris D.2.2.place.toList
  led : w.params.followText "set-order" = true ∨ D.2.2.led = true
section
variable {P : Program} {w : World}
theorem tail_ris {n : Nat} {es : Array (Int × Value)} {t : SetTable} {b : Bool} (h : Ris t.place.toList) : Ris (Froz.tailTx n es t b).2.2.place.toList := by
  by_cases c : (!b && t.tooFull) = true
  · unfold Froz.tailTx; rw [if_pos c]; exact relayAll_ris _ _ _
  · unfold Froz.tailTx; rw [if_neg c]; exact h
theorem tail_led {n : Nat} {es : Array (Int × Value)} {t : SetTable} {b : Bool} : (Froz.tailTx n es t b).2.2.led = t.led := by
  by_cases c : (!b && t.tooFull) = true
  · unfold Froz.tailTx; rw [if_pos c]; exact relayAll_led _ _ _
  · unfold Froz.tailTx; rw [if_neg c]
theorem off_place (t : SetTable) : (if t.plain = true then { t with plain := false } else t).place = t.place := by split <;> rfl
theorem off_led (t : SetTable) : (if t.plain = true then { t with plain := false } else t).led = t.led := by split <;> rfl
theorem TxR.more {D : Froz.SD} {l : List Str} {k : Str} {u : Tok} (h : TxR P w D l) (hk : k ∉ l) : TxR P w (Froz.addTx (hashStr w k) (.str k u) D) (k :: l) :=
  ⟨Froz.add_ok u h.ok, List.nodup_cons.mpr ⟨hk, h.nd⟩, by
    unfold Froz.addTx
    exact tail_ris (by rw [off_place]; exact layNew_ris _ _ _ _ h.ris), h.led.imp id fun z => by
    unfold Froz.addTx
    rw [tail_led, off_led, layNew_led, z]⟩
/-- in the heap -/
def TxAt (P : Program) (w : World) (h : Heap) (a : Addr) (l : List Str) : Prop := ∃ D, h.get? a = some (Froz.sObj "set" D) ∧ TxR P w D l
theorem TxAt.old {h h' : Heap} {a : Addr} {l : List Str} (t : TxAt P w h a l) (k : ∀ o, h.get? a = some o → h'.get? a = some o) : TxAt P w h' a l := by
  obtain ⟨D, e, r⟩ := t
  exact ⟨D, k _ e, r⟩
def SetTO (P : Program) (w : World) (a : Addr) (l : List Str) : HO := .ext fun h => TxAt P w h a l
theorem setTO_new {H : Hp} {h : Heap} {a : Addr} {l : List Str} (t : TxAt P w h a l) : ObjOk P w H h a (SetTO P w a l) := by
  have ⟨D, e, _⟩ := t
  exact ⟨t, ⟨_, e⟩, fun _ _ p k => p.old k⟩
def putT (k : Str) (l : List Str) : List Str := if k ∈ l then l else k :: l
theorem putT_len (k : Str) (l : List Str) : (putT k l).length ≤ l.length + 1 := by
  unfold putT
  split
  · exact Nat.le_succ _
  · exact Nat.le_refl _
section
variable {A : Around} {E : Value → Shared → Prop} {s : Shared} {a : Addr} {l : List Str} {k : Str} {u : Tok}
/-- a text that is in it already -/
theorem met_x {D : Froz.SD} {Q : Bool → Shared → Prop} (ho : s.heap.get? a = some (Froz.sObj "set" D)) (F : Froz.TxOk P w D l) (hk : k ∈ l) (hb : l.length < scanBound) (q : Q false s) : wpAny (model P w) A (setAddHashed a (.str k u) (hashStr w k)) Q E s := by
  obtain ⟨es, n, t⟩ := D
  have hd : (Froz.sObj "set" (es, n, t)).data = .set es n t := rfl
  have fit : t.fits es.size = true := F.fit
  have el : ElemsOf (strKind P w) es.toList := F.el
  have sz : es.size < scanBound := by
    have e : es.size = l.length := F.sz
    omega
  have is : (strKind P w).is k (.str k u) = true := Froz.is_str k u
  obtain ⟨e, he, z⟩ := (F.mem k).mp hk
  have fi : ∃ j, List.findIdx? (fun e => (strKind P w).is k e.2) es.toList = some j := by
    cases c : List.findIdx? (fun e => (strKind P w).is k e.2) es.toList with
    | some j => exact ⟨j, rfl⟩
    | none =>
      have := List.findIdx?_eq_none_iff.mp c e he
      rw [z] at this
      cases this
  obtain ⟨j, fi⟩ := fi
  unfold setAddHashed setAddHashedIn; refine wpAny_holding (wpAny_bind (wpAny_setState_of ho hd fit ?_)); dsimp only
  rw [byScan_of rfl sz el]; simp only [↓reduceIte]; unfold setAddByScan
  refine wpAny_bind (wpAny_bind (wpAny_rule (wpAny_bind (wpAny_setScan_of (knd := strKind P w) (k := k) is ho hd fit el ?_))))
  rw [fi]
  exact wpAny_pure (wpAny_pure q)
theorem same_upd {h : Heap} {b : Addr} {f : Obj → Obj} : Heap.SameBut b h (h.update b f) := Heap.SameBut.update h b f
/-- set.add of a text -/
theorem addT_raw {Q : Value → Shared → Prop} (R : TxAt P w s.heap a l) (room : l.length + 1 < scanBound)
    (q : ∀ h', Heap.SameBut a s.heap h' → TxAt P w h' a (putT k l) → Q .none { s with heap := h', toks := s.toks + 1 }) : wpAny (model P w) A (call (.builtin "set.add") [.ref a, .str k u]) Q E s := by
  obtain ⟨D, ho, r⟩ := R
  refine wpAny_call_entry F.slot_set_add ⟨_, ho, rfl⟩ F.entry_set_add ?_ (F.args_set_add_2 _ _)
  unfold Builtin.«set.add» Builtin.Frozenset.oneOther; simp only [List.isEmpty_nil, bind_assoc]; unfold Builtin.Frozenset.addrOf setAdd
  refine wpAny_bind (wpAny_pure ?_); try dsimp only
  refine wpAny_bind (wpAny_pure ?_); try dsimp only
  refine wpAny_bind (wpAny_holding (wpAny_bind ((strKind P w).pyHash (Froz.is_str k u) ?_)))
  by_cases hk : k ∈ l
  · refine met_x (s := { s with toks := s.toks + 1 }) ho r.ok hk (by omega) ?_
    refine wpAny_pure ⟨_, rfl, ?_⟩
    have z := q s.heap (Heap.SameBut.refl a s.heap)
    unfold putT at z; rw [if_pos hk] at z
    exact z ⟨D, ho, r⟩
  · refine Froz.add_x (s := { s with toks := s.toks + 1 }) ho r.ok hk (by omega) ?_
    refine wpAny_pure ⟨_, rfl, ?_⟩
    have z := q _ (same_upd (h := s.heap) (b := a) (f := fun _ => Froz.sObj "set" (Froz.addTx (hashStr w k) (.str k u) D)))
    unfold putT at z; rw [if_neg hk] at z
    exact z ⟨_, Froz.get_upd _ ho rfl, r.more hk⟩
theorem fresh_x {h : Heap} : TxAt P w (h.push { cls := .type "set", dict := none, data := .set #[] 0 (.fresh 0 0 (!w.params.followText "set-order")) }) h.objs.size [] :=
  ⟨(#[], 0, .fresh 0 0 (!w.params.followText "set-order")), Heap.get?_push_size _ rfl, Froz.TxOk.nil (by rfl), List.nodup_nil, List.Pairwise.nil, by
    show _ ∨ (!w.params.followText "set-order") = true
    cases w.params.followText "set-order" <;> first | exact .inl rfl | exact .inr rfl⟩
end
end
end Hk
/-! Hk43: the comprehension of a set of texts; sorted of it. -/
namespace Hk
open PySem PySem.Spec PyProof.Rows L2 Evl
section
variable {X : Cx}
theorem setTO_get {pins : List (Addr × Obj)} {σ : L2.St} {H : Hp} {s : Shared} {a : Addr} {l : List Str} (I : Inv X pins σ H s) (ha : H a = some (SetTO X.prog X.w a l)) : TxAt X.prog X.w s.heap a l := (I.hok a _ ha).1
theorem addT_ok {pins : List (Addr × Obj)} {σ : L2.St} {H : Hp} {s : Shared} {E : Value → Shared → Prop} {D : Addr} {l : List Str} {k : Str} {u : Tok} {Q : Value → Shared → Prop} (I : Inv X pins σ H s) (hD : H D = some (SetTO X.prog X.w D l)) (room : l.length + 1 < scanBound)
    (q : ∀ s', Inv X pins σ (upd H D (SetTO X.prog X.w D (putT k l))) s' → Q .none s') : wpAny (model X.prog X.w) X.A (call (.builtin "set.add") [.ref D, .str k u]) Q E s :=
  addT_raw (setTO_get I hD) room fun h' sb new => q _ (I.write (e := D) (t' := s.toks + 1) (by rw [hD]; trivial) (.inl rfl) (fun b u hb hu => (sb.2 b hb).trans hu) (by obtain ⟨P, hP, _⟩ := new; exact ⟨_, hP⟩) (setTO_new new))
/-- {elt for target in iter if ..}, elt a text: D the new set -/
def tScT (P : Program) (w : World) (wi : TI) (g : TG) (tt : TT) (te : TE) (vs : List Nat) : TE := fun σ H Q => wi σ H fun J H1 => ∀ D, H1 D = none → ∃ W : Nat → Nat → Hp → Prop, (∃ m, W 0 m (upd H1 D (SetTO P w D []))) ∧ ∀ i m H, W i m H →
  (J.stop i H ∧ Q (.ref D) H) ∨ (J.go i H ∧ ∃ Nx : Hp → Prop, (∀ H', Nx H' → ∃ m', m' < m ∧ W (i + 1) m' H') ∧ ∀ x H', J.yld i H x H' → g x (wipe σ vs) H' fun σ2 H2 => wipe σ2 vs = wipe σ vs ∧ tt σ2 H2 fun b H3 =>
    if b = true then te σ2 H3 fun y H4 => ∃ (k : Str) (l : List Str), y = .str k ∧ H4 D = some (SetTO P w D l) ∧ l.length + 1 < scanBound ∧ Nx (upd H4 D (SetTO P w D (putT k l))) else Nx H3)
theorem pe_scT {elt tg iter : Expr} {ifs : List Expr} {scope : Scope} {own : List (Str × Nat)} {pos : Pos} {wi : TI} {g : TG} {tt : TT} {te : TE} (hc : X.calm = true) (hN : X.N.Nodup) (hi : PI X tg iter wi) (ok : BlkOk X.N X.env.scope scope own)
    (hg : ∀ (s : Shared) (H : Hp) (C : Addr) (cl : List (Str × Addr)) (fp : List Addr), PG (X.blk s H scope (compEnvC scope cl C X.env) fp) tg g) (ht : ∀ (s : Shared) (H : Hp) (C : Addr) (cl : List (Str × Addr)) (fp : List Addr), PTs (X.blk s H scope (compEnvC scope cl C X.env) fp) ifs tt)
    (he : ∀ (s : Shared) (H : Hp) (C : Addr) (cl : List (Str × Addr)) (fp : List Addr), PE (X.blk s H scope (compEnvC scope cl C X.env) fp) elt te) (hs : ∀ x, foldedSetIterable iter X.env x = pure x := by intro _; rfl) :
    PE X (.SetComp elt [⟨tg, iter, ifs, 0⟩] scope pos) (tScT X.prog X.w wi g tt te (own.map (·.2))) := by
  refine ⟨fun pins s σ H Q I hq => ?_⟩
  rw [PpSet.eval_SetComp]
  have cap : ∀ y ∈ scope.names, y.2 = .free → ∃ c, X.env.cells.lookup y.1 = some c := fun y hy e => (ok.free y hy e).elim (fun k => I.ok.has _ (.inl k)) fun k => I.ok.has _ (.inr k)
  refine wpAny_comprehension_free rfl hs (closure_ok cap) ok.kind (fun y hy e => by rw [ok.uniq y hy, e]) (thn (hi.run pins s σ H _ I hq) fun _ _ hx => thn hx fun _ s2 z => ?_)
  obtain ⟨it, fp, tn, J, H2, rfl, I2, T, at2, foot, q⟩ := z
  refine PpSet.newSet_ok (newEnv_comp ?_)
  generalize hD : s2.heap.objs.size = D
  have dn : H2 D = none := I2.hok.fresh (Nat.le_of_eq hD)
  obtain ⟨W, ⟨m0, w0⟩, turn⟩ := q D dn
  generalize hs3 : ({ s2 with heap := s2.heap.push { cls := .type "set", dict := none, data := .set #[] 0 (.fresh 0 0 (!X.w.params.followText "set-order")) } } : Shared) = s3
  have h3 : s3.heap = s2.heap.push { cls := .type "set", dict := none, data := .set #[] 0 (.fresh 0 0 (!X.w.params.followText "set-order")) } := by rw [← hs3]
  generalize hH3 : upd H2 D (SetTO X.prog X.w D []) = H3 at w0
  have I3 : Inv X pins σ H3 s3 := by
    rw [← hH3, ← hs3]
    exact I2.laid (t' := s2.toks) (fun b o e => Heap.get?_push_of_some _ e) (Nat.le_of_eq hD) (by rw [← hD]; exact setTO_new fresh_x)
  have foot3 : ∀ b ∈ fp, FpOk X pins H3 b ∧ b < s3.heap.objs.size := fun b hb => by
    obtain ⟨_, e, _⟩ := T.obj _ _ at2 b hb
    have hlt := Heap.lt_size e
    exact ⟨⟨by rw [← hH3, upd_ne (by rw [← hD]; exact Nat.ne_of_lt hlt)]; exact (foot b hb).1, (foot b hb).2⟩, by rw [h3, Heap.size_push]; exact Nat.lt_succ_of_lt hlt⟩
  have at3 : tn 0 s3.heap := T.keep _ _ _ at2 fun b _ o e => by rw [h3]; exact Heap.get?_push_of_some _ e
  have I4 := block_start I3 ok hN foot3
  generalize hcl : cellsFrom (s3.heap.objs.size + 1) scope.names (cloFrom X.env.cells scope.names []) = cl at I4
  have pg := hg s3 H3 s3.heap.objs.size cl fp; have pt := ht s3 H3 s3.heap.objs.size cl fp; have pe := he s3 H3 s3.heap.objs.size cl fp
  have clear : ∀ b ∈ fp, H3 b = none := fun b hb => (foot3 b hb).1.1
  generalize hce : compEnvC scope cl s3.heap.objs.size X.env = ce at I4 pg pt pe
  have cL : ce.locals = s3.heap.objs.size := by subst hce; rfl
  generalize hs4 : ({ s3 with heap := pushCells (s3.heap.push { cls := .type "dict", data := .dict #[] }) scope.names } : Shared) = s4 at I4
  have at4 : tn 0 s4.heap := T.keep _ _ _ at3 fun b _ o e => by rw [← hs4]; exact pushCells_keeps _ _ _ _ (Heap.get?_push_of_some _ e)
  have still : ∀ {σ' : L2.St} {H' : Hp} {s' : Shared}, Inv (X.blk s3 H3 scope ce fp) [] σ' H' s' → (∀ b ∈ fp, H' b = none) → ∀ b ∈ fp, FpOk (X.blk s3 H3 scope ce fp) [] H' b := fun {σ' H' s'} J' hn b hb =>
    ⟨hn b hb, (J'.ok.exf b hb).1, J'.ok.exfs b hb, .inl hb, fun x c e => (J'.ok.exf b hb).2 x c e, fun p hp => (List.not_mem_nil (show p ∈ [] from hp)).elim⟩
  have post : ∀ s' m H', Inv X pins σ H' s' → Q (.ref D) H' → s'.heap.Ns s3.heap.objs.size m → FpOk X pins H' s3.heap.objs.size → compPost (model X.prog X.w) X.A X.xe none (fun v s' => ∃ z H', Inv X pins σ H' s' ∧ RelV z v ∧ Q z H') (.ref D) s3.heap.objs.size (.ok .next) s' := fun s' m H' I' q' hn f => ⟨m, hn, fun h'' sb => by
    obtain ⟨f0, f1, f2, f3, f4, f5⟩ := f
    exact ⟨.ref D, H', I'.turned (t' := s'.toks) (fun b o hb e => (sb.2 b hb).trans e) f0 f1 f3 f4 f5, rfl, q'⟩⟩
  have loop : codeAny (model X.prog X.w) X.A (.compLoop (.SetComp elt [⟨tg, iter, ifs, 0⟩] scope pos) 0 (.ref it) (.ref D) ce) (compPost (model X.prog X.w) X.A X.xe none (fun v s' => ∃ z H', Inv X pins σ H' s' ∧ RelV z v ∧ Q z H') (.ref D) s3.heap.objs.size) s4 := by
    refine PpSet.compLoopS_any (fun n s' => ∃ i H', Inv (X.blk s3 H3 scope ce fp) [] (wipe σ (own.map (·.2))) H' s' ∧ tn i s'.heap ∧ (∀ b ∈ fp, H' b = none) ∧ W i n H') ?_ m0 ⟨0, H3, I4, at4, clear, w0⟩
    rintro n s5 ⟨i, H5, I5, at5, n5, w5⟩
    rcases turn i n H5 w5 with ⟨stop, done⟩ | ⟨go, Nx, down, step⟩
    · refine thnF (T.done (X.blk s3 H3 scope ce fp) rfl rfl rfl hc i [] s5 _ H5 (fun _ _ => False) I5 (still I5 n5) at5 stop) fun r s6 z => ?_
      obtain ⟨rfl, I6⟩ := z
      have I7 : Inv X pins σ H5 s6 := I3.call' (ch := fp) I6.os I6.base I6.hok I6.bare fun b hb => ⟨(foot3 b hb).1.2.2.2.1, (foot3 b hb).1.2.1, (foot3 b hb).1.2.2.2.2.1, (foot3 b hb).1.2.2.2.2.2⟩
      have nC : H5 s3.heap.objs.size = none := cL ▸ (show H5 ce.locals = none from I6.free)
      obtain ⟨m, hn, _⟩ := I6.loc
      exact post s6 m H5 I7 done (cL ▸ (show s6.heap.Ns ce.locals m from hn)) (I3.fpOk (Nat.le_refl _) nC)
    · refine thnF (T.item (X.blk s3 H3 scope ce fp) rfl rfl rfl hc i [] s5 _ H5 (fun _ _ => False) I5 (still I5 n5) at5 go) fun r s6 z => ?_
      obtain ⟨u, rfl, h6⟩ := z
      refine thnF h6 fun _ s7 z => ?_
      obtain ⟨x, H7, I7, r7, y7, at7, n7⟩ := z
      refine thnF (pg.run _ s7 _ H7 x u _ (I7.pinned (still I7 n7) (T.obj _ _ at7)) r7 (step x H7 y7)) fun _ s8 z => ?_
      obtain ⟨σ8, H8, I8, hw8, q8⟩ := z
      refine thnF (pt.run _ s8 σ8 H8 _ I8 q8) fun b s9 z => ?_
      obtain ⟨H9, I9, q9⟩ := z
      have fin : ∀ {s' : Shared} {H' : Hp}, Inv (X.blk s3 H3 scope ce fp) ([] ++ pinsAt fp s7.heap) σ8 H' s' → Nx H' → ∃ m, m < n ∧ ∃ i H', Inv (X.blk s3 H3 scope ce fp) [] (wipe σ (own.map (·.2))) H' s' ∧ tn i s'.heap ∧ (∀ b ∈ fp, H' b = none) ∧ W i m H' := fun {s' H'} I' nx => by
        obtain ⟨m', hm, w'⟩ := down H' nx
        have pin : ∀ b ∈ fp, ∀ o, s7.heap.get? b = some o → s'.heap.get? b = some o ∧ H' b = none := fun b hb o e => ⟨(I'.pin (b, o) (List.mem_append_right _ (List.mem_append_right _ (mem_pinsAt hb e)))).1, (I'.pin (b, o) (List.mem_append_right _ (List.mem_append_right _ (mem_pinsAt hb e)))).2.1⟩
        refine ⟨m', hm, i + 1, H', (I'.unpinned (pins := [])).weak (by rw [← hw8, wipe_length]) (fun j v e => by rw [← hw8] at e; exact (wipe_some e).1), T.keep _ _ _ at7 fun b hb o e => (pin b hb o e).1, fun b hb => ?_, w'⟩
        obtain ⟨o, e, _⟩ := T.obj _ _ at7 b hb
        exact (pin b hb o e).2
      cases b with
      | false => simp only [Bool.false_eq_true, if_false] at q9 ⊢; exact fin I9 q9
      | true =>
        simp only [if_true] at q9 ⊢
        refine thnF (pe.run _ s9 σ8 H9 _ I9 q9) fun z s10 y => ?_
        obtain ⟨yv, H10, I10, r10, k, l, rfl, hD10, room, nx⟩ := y
        obtain ⟨tk, rfl⟩ := (show ∃ t, z = Value.str k t from r10)
        exact addT_ok (X := X.blk s3 H3 scope ce fp) I10 hD10 room fun s11 I11 => fin I11 nx
  subst hce
  exact PpSet.codeAny_compStart_set loop (T.self X.A 0 _ _ _ at4 loop)
end
end Hk
/-! Hk44: sorted of a set of texts. -/
namespace Hk
open PySem PySem.Spec PyProof.Rows L2 Evl
theorem perm_nd {α : Type} [DecidableEq α] : ∀ (l m : List α), l.Nodup → (∀ x ∈ l, x ∈ m) → m.length ≤ l.length → l.Perm m
  | [], m, _, _, h => by
    rw [List.eq_nil_of_length_eq_zero (Nat.le_zero.mp h)]
  | x :: l, m, nd, sub, h => by
    have hx := sub x List.mem_cons_self
    obtain ⟨n1, n2⟩ := List.nodup_cons.mp nd
    have p := List.perm_cons_erase hx
    have hl := p.length_eq
    rw [List.length_cons] at hl h
    exact ((perm_nd l (m.erase x) n2 (fun y hy => (List.mem_erase_of_ne fun e => n1 (by rw [← e]; exact hy)).mpr (sub y (List.mem_cons_of_mem _ hy))) (by omega)).cons x).trans p.symm
def wordV : Value → Str
  | .str k _ => k
  | _ => Str.empty
theorem strs_of : ∀ l : List Value, (∀ v ∈ l, ∃ k t, v = Value.str k t) → StrsAre l (l.map wordV)
  | [], _ => .nil
  | v :: l, h => by
    obtain ⟨k, t, rfl⟩ := h v List.mem_cons_self
    exact .cons k t (strs_of l fun u hu => h u (List.mem_cons_of_mem _ hu))
section
variable {P : Program} {w : World} {A : Around} {E : Value → Shared → Prop} {s : Shared} {a : Addr} {l : List Str}
theorem TxR.words {D : Froz.SD} (R : TxR P w D l) : (∀ v ∈ D.1.toList.map (·.2), ∃ k t, v = Value.str k t) ∧ ((D.1.toList.map (·.2)).map wordV).Perm l := by
  have h1 : ∀ v ∈ D.1.toList.map (·.2), ∃ k t, v = Value.str k t := fun v hv => by
    obtain ⟨e, he, rfl⟩ := List.mem_map.mp hv
    obtain ⟨⟨k, hk, _⟩, _⟩ := R.ok.el e he
    obtain ⟨t, ht⟩ := Value.isStrOf_shape (show Value.isStrOf k e.2 = true from hk)
    exact ⟨k, t, ht⟩
  refine ⟨h1, (perm_nd l _ R.nd (fun k hk => ?_) ?_).symm⟩
  · obtain ⟨e, he, z⟩ := (R.ok.mem k).mp hk
    obtain ⟨t, ht⟩ := Value.isStrOf_shape (show Value.isStrOf k e.2 = true from z)
    exact List.mem_map.mpr ⟨e.2, List.mem_map.mpr ⟨e, he, rfl⟩, by rw [ht]; rfl⟩
  · rw [List.length_map, List.length_map, Array.length_toList]
    exact Nat.le_of_eq R.ok.sz
theorem sortT_raw {Q : Value → Shared → Prop} (R : TxAt P w s.heap a l) (hh : A.handled = none) (h64 : l.length < 64)
    (q : ∀ s' p (its : List Value) (c : Nat), (∀ b o, s.heap.get? b = some o → s'.heap.get? b = some o) → s'.gens = s.gens → s'.os = s.os → s.heap.objs.size ≤ p →
      s'.heap.get? p = some (seqObj "list" its.toArray c) → StrsAre its (sortS l) → Q (.ref p) s') :
    wpAny (model P w) A (call (.builtin "sorted") [.ref a]) Q E s := by
  obtain ⟨⟨es, n, t⟩, ho, R⟩ := R
  have sz : es.size = l.length := R.ok.sz
  have ws := R.words
  refine Calls.call_function_entry kind_sorted plain_sorted entry_sorted (args_sorted1 _) ?_
  unfold Builtin.«sorted»; refine wpAny_bind (m := checkCount "sorted" 1 1 _) (wpAny_pure (wpAny_bind (collect_set (A := A.in1) hh ⟨_, ho, rfl, rfl⟩ R.ok.fit (Nat.lt_trans (by rw [sz]; exact h64) (by decide)) R.ris R.led fun s1 vs k1 z1 g1 o1 pm => ?_)))
  have hS := strs_of vs fun v hv => ws.1 v (pm.mem_iff.mp hv)
  have pl : (vs.map wordV).Perm l := (pm.map wordV).trans ws.2
  have hvl : vs.length = l.length := by
    have := pl.length_eq
    rw [List.length_map] at this
    exact this
  refine wpAny_bind (wpAny_newList ?_ (by rw [hvl, sizeLine_eq]; omega))
  have at1 : (s1.heap.push (seqObj "list" vs.toArray 0)).get? s1.heap.objs.size = some (seqObj "list" vs.toArray 0) := Heap.get?_push_size _ rfl
  refine wpAny_bind (wpAny_holding (wpAny_call_entry slot_list_sort ⟨_, at1, rfl⟩ entry_list_sort (list_sort_treeK strKind_oneLt at1 hS.keysOf (fun _ _ _ e => keyKind_strs (by rw [← e]; exact hS)) (by rw [hvl]; exact h64) fun st' p1 p2 => ⟨_, rfl, ?_⟩) (args_list_sort _)))
  obtain ⟨ys, y1, y2, y3⟩ := sorted_out_str hS p1 p2
  obtain ⟨c, hc⟩ := sortedHeap_at (vs := vs) (out := (arrOf st').map (·.2)) at1
  refine wpAny_pure ⟨_, rfl, q _ s1.heap.objs.size ((arrOf st').map (·.2)).toList c (fun b u e => ?_) g1 o1 z1 (by rw [Array.toArray_toList]; exact hc) (by rw [← sort_unique (y2.trans pl) y3]; exact y1)⟩
  have e1 := k1 b u e
  have lt := Heap.lt_size e1
  show (sortedHeap (s1.heap.push (seqObj "list" vs.toArray 0)) s1.heap.objs.size vs ((arrOf st').map (·.2))).get? b = some u
  rw [sortedHeap_old (Nat.ne_of_lt lt) (by rw [size_push']; exact Nat.lt_succ_of_lt lt)]
  exact Heap.get?_push_of_some _ e1
end
def rST (P : Program) (w : World) : List V → Hp → VK → Prop := fun vs H Q => ∃ D l, vs = [.ref D] ∧ H D = some (SetTO P w D l) ∧ l.length < 64 ∧ ∀ p, H p = none → Q (.ref p) (upd H p (.lst ((sortS l).map V.str)))
theorem cr_sT {X : Cx} (hc : X.calm = true) : CallR X (.builtin "sorted") (rST X.prog X.w) := by
  intro pins s σ H vs us Q I r h
  obtain ⟨D, l, rfl, hD, h64, q⟩ := h
  rw [Vals.ref1 r]
  refine sortT_raw (setTO_get I hD) (I.ok.hd hc) h64 fun t p its c k1 k2 k3 hp hg hi => ?_
  have np : H p = none := I.hok.fresh hp
  have hl : ((sortS l).map V.str).length ≤ sizeLine := by
    rw [List.length_map, (sortS_perm l).length_eq, sizeLine_eq]
    omega
  have J : L2.Inv X pins σ (upd H p (.lst ((sortS l).map V.str))) { s with heap := t.heap, gens := t.gens, drawn := t.drawn, toks := t.toks } := I.call (ch := []) (Un.laid k1 hp np) (I.hok.laid k1 hp ⟨hl, its, c, vals_of_strs hi, hg⟩) (by rw [k2]; exact I.bare) (fun _ z => nomatch z)
  have et : t = { s with heap := t.heap, gens := t.gens, drawn := t.drawn, toks := t.toks } := by cases t; cases s; cases k3; rfl
  rw [et]
  exact ⟨.ref p, _, J, rfl, q p np⟩
end Hk
/-! Hk45: sorted of a set comprehension whose test and texts hang on the item alone. -/
namespace Hk
open PySem PySem.Spec PyProof.Rows L2 Evl
/-- a test that hangs on the item at p alone -/
def EqP (p : Nat) (t : M Bool) (f : Dt → Option Bool) : Prop := ∀ (d : Dt) (sl : List (Option Vl)) (ce : List Ce), p < sl.length → t ⟨sl.set p (some (.d d)), ce⟩ = (f d).map fun b => (b, ⟨sl.set p (some (.d d)), ce⟩)
def EqM (p : Nat) (m : M Vl) (f : Dt → Option Dt) : Prop := ∀ (d : Dt) (sl : List (Option Vl)) (ce : List Ce), p < sl.length → m ⟨sl.set p (some (.d d)), ce⟩ = (f d).map fun x => (.d x, ⟨sl.set p (some (.d d)), ce⟩)
theorem eqm_v {p : Nat} : EqM p (vM p) some := fun d sl ce h => by
  unfold vM
  rw [show (En.mk (sl.set p (some (.d d))) ce).sl[p]? = some (some (.d d)) by
    show (sl.set p (some (Vl.d d)))[p]? = _
    rw [List.getElem?_set, if_pos rfl, if_pos h]]
  rfl
theorem eqm_c {p : Nat} {c : Dt} : EqM p (retM (.d c)) (fun _ => some c) := fun _ _ _ _ => rfl
theorem eqm_bind {p : Nat} {m : M Vl} {k : Vl → M Vl} {f : Dt → Option Dt} {g : Dt → Dt → Option Dt} (h : EqM p m f) (q : ∀ x, EqM p (k (.d x)) (g x)) : EqM p (bindM m k) (fun d => (f d).bind fun x => g x d) := fun d sl ce hp => by
  unfold bindM
  rw [h d sl ce hp]
  show _ = Option.map _ ((f d).bind fun x => g x d)
  cases f d with
  | none => rfl
  | some x => exact q x d sl ce hp
theorem eqm_ix {p : Nat} {x y : Dt} : EqM p (ixF (.d x) (.d y)) (fun _ => ixD x y) := fun d sl ce hp => by
  unfold ixF
  show (ixD x y).map _ = _
  cases ixD x y <;> rfl
theorem eqm_op {p : Nat} {F : Dt → Dt → Option Dt} {x y : Dt} : EqM p (op2 F (.d x) (.d y)) (fun _ => F x y) := fun d sl ce hp => by
  unfold op2
  show (F x y).map _ = _
  cases F x y <;> rfl
def blD : Dt → Option Bool
  | .bl b => some b
  | _ => none
theorem eqp_bool {p : Nat} {m : M Vl} {f : Dt → Option Dt} (h : EqM p m f) : EqP p (bindM m boolM) (fun d => (f d).bind blD) := fun d sl ce hp => by
  unfold bindM
  rw [h d sl ce hp]
  show _ = Option.map _ ((f d).bind blD)
  cases f d with
  | none => rfl
  | some x => cases x <;> rfl
def stD : Dt → Option Str
  | .str k => some k
  | _ => none
/-- what the comprehension gathers, each text once -/
def gather (tf : Dt → Option Bool) (mf : Dt → Option Dt) : List Dt → List Str → Option (List Str)
  | [], acc => some acc
  | d :: ds, acc => match tf d with
    | some true => match (mf d).bind stD with
      | some k => if acc.length < 60 then gather tf mf ds (putT k acc) else none
      | none => none
    | some false => gather tf mf ds acc
    | none => none
theorem get_last1 {α : Type} (l : List α) (x : α) : (l ++ [x])[l.length]? = some x := by simp
theorem set_last1 {α : Type} (l : List α) (x y : α) : (l ++ [x]).set l.length y = l ++ [y] := by
  rw [List.set_append_right _ _ (Nat.le_refl _)]
  simp
def sortPM (p : Nat) (tf : Dt → Option Bool) (mf : Dt → Option Dt) (i : M (List Dt)) : M Vl := fun E => match i E with
  | some (ds, E1) => if p < E1.sl.length then match gather tf mf ds [] with
    | some acc => newL ((sortS acc).map .str) ⟨E1.sl, E1.ce ++ [.dead]⟩
    | none => none
    else none
  | none => none
/-- a set of texts is no code object -/
theorem setTO_code {P : Program} {w : World} {a : Addr} {l : List Str} (c : Addr) (q : Str) : SetTO P w a l ≠ LamX.CodeO c q := fun e => by
  unfold SetTO LamX.CodeO at e
  have e := HO.ext.inj e
  have g : ∀ b, (Heap.mk (Array.replicate (c + 1) ({ cls := .none, data := .fields #[.none, .str q 0] } : Obj)) {}).get? b = if b < c + 1 then some { cls := .none, data := .fields #[.none, .str q 0] } else none := fun b => by
    unfold Heap.get?
    simp only [Array.getElem?_replicate]
    by_cases hb : b < c + 1
    · rw [if_pos hb]
    · rw [if_neg hb]
  have z := (congrFun e (Heap.mk (Array.replicate (c + 1) { cls := .none, data := .fields #[.none, .str q 0] }) {})).mpr ⟨_, _, 0, (g c).trans (if_pos (Nat.lt_succ_self c)), rfl, rfl⟩
  obtain ⟨D, h1, _⟩ := z
  rw [g a] at h1
  by_cases ha : a < c + 1
  · rw [if_pos ha] at h1
    have h2 := congrArg Obj.data (Option.some.inj h1)
    cases h2
  · rw [if_neg ha] at h1
    cases h1
theorem rl_dead {K : PySem.W.Frag} {μ : List Addr} {Hd H : Hp} {σ : L2.St} {sl : List (Option Vl)} {ce : List Ce} {c : Ce} (R : Rl K μ Hd H σ ⟨sl, ce ++ [c]⟩) : Rl K μ Hd H σ ⟨sl, ce ++ [.dead]⟩ := by
  have at_ : ∀ {k : Nat} {e : Ce}, (ce ++ [Ce.dead])[k]? = some e → e ≠ .dead → (ce ++ [c])[k]? = some e := fun {k e} h hd => by
    rcases get_append_one h with h | ⟨_, h⟩
    · rw [List.getElem?_append_left (List.getElem?_eq_some_iff.mp h).1]; exact h
    · exact absurd h hd
  refine ⟨⟨R.wo.ex, ?_, fun k a ks ds hk ha => ?_, fun k e a hk ha hl => ?_, fun j k a e f hj hk hej hfk le lf => ?_, fun k a P q hk ha => R.wo.tb k a P q (at_ hk (by intro z; cases z)) ha, R.wo.trs.kill R.wo.len fun k e hk hd => at_ hk hd⟩, R.sl⟩
  · have := R.wo.len
    rw [List.length_append] at this ⊢
    exact this
  · obtain ⟨h1, h2⟩ := R.wo.lk k a ks ds (at_ hk (by intro z; cases z)) ha
    exact ⟨h1, fun j ks' ds' hj hja => h2 j ks' ds' (at_ hj (by intro z; cases z)) hja⟩
  · exact R.wo.at_ k e a (at_ hk (by intro z; subst z; cases hl)) ha hl
  · exact R.wo.inj j k a e f hj hk (at_ hej (by intro z; subst z; cases le)) (at_ hfk (by intro z; subst z; cases lf)) le lf
theorem em_sortP {K : PySem.W.Frag} {P : Program} {w : World} {p : Nat} {wi : TI} {mi : M (List Dt)} {g : TG} {tt : TT} {mt : M Bool} {te : TE} {me : M Vl} {tf : Dt → Option Bool} {mf : Dt → Option Dt} (hi : IM K wi mi) (hg : GcM K [p] g (nameG p)) (ht : TM K tt mt) (hm : EM K te me) (et : EqP p mt tf) (em : EqM p me mf) :
    EM K (tCB (rST P w) (tCons (tScT P w wi g tt te [p]) tNil)) (sortPM p tf mf mi) := fun {μ Hd H σ E r E'} R e Q q => by
  unfold sortPM at e
  split at e
  · rename_i ds E1 q1
    split at e
    · rename_i hp
      split at e
      · rename_i acc q2
        refine hi R q1 _ fun μ1 Hd1 H1 J g1 R1 sv D hD => ?_
        obtain ⟨g2, R2, _⟩ := R1.newX (c := .pin (SetTO P w D [])) (o := SetTO P w D []) hD ⟨rfl, fun c q => setTO_code c q, fun _ => nofun⟩
        have hDat : (μ1 ++ [D])[E1.ce.length]? = some D := by
          rw [← R1.wo.len]
          exact get_last1 _ _
        refine ⟨fun i n H' => ∃ μ' Hd' l, Gr (μ1 ++ [D]) Hd1 μ' Hd' ∧ Rl K μ' Hd' H' (L2.wipe σ [p]) (wipeE [p] ⟨E1.sl, E1.ce ++ [Ce.pin (SetTO P w D l)]⟩) ∧ n = ds.length - i ∧ l.length ≤ 60 ∧ gather tf mf (ds.drop i) l = some acc,
          ⟨_, _, Hd1, [], Gr.refl _ _, ⟨R2.wo, R2.sl.wipe [p]⟩, rfl, Nat.zero_le _, q2⟩, fun i n H' hw => ?_⟩
        obtain ⟨μ', Hd', l, g3, R3, ek, hl, q3⟩ := hw
        have hat : ∀ {μ2 : List Addr} {Hd2 H2 : Hp} {σ2 : L2.St} {sl2 : List (Option Vl)}, Gr (μ1 ++ [D]) Hd1 μ2 Hd2 → Rl K μ2 Hd2 H2 σ2 ⟨sl2, E1.ce ++ [Ce.pin (SetTO P w D l)]⟩ → H2 D = some (SetTO P w D l) ∧ μ2[E1.ce.length]? = some D := fun {μ2 Hd2 H2 σ2 sl2} gg RR => by
          have ha := gg.pre _ _ hDat
          obtain ⟨_, o, h2, h3⟩ := RR.wo.at_ E1.ce.length _ D (get_last1 _ _) ha rfl
          exact ⟨by rw [h2, show o = SetTO P w D l from h3.1], ha⟩
        cases hd : ds.drop i with
        | nil =>
          rw [hd] at q3
          have q3 : l = acc := Option.some.inj q3
          subst q3
          have hle : ds.length ≤ i := by
            have := congrArg List.length hd
            rw [List.length_drop] at this
            simp at this
            omega
          refine .inl ⟨(sv Hd' H' i (g2.trans g3).ex R3.wo.ex).1 hle, D, l, rfl, (hat g3 R3).1, by omega, fun a ha => ?_⟩
          have R4 : Rl K μ' Hd' H' σ ⟨E1.sl, E1.ce ++ [.dead]⟩ := rl_dead (c := .pin (SetTO P w D l)) ⟨R3.wo, (R1.sl.gr g2).gr g3⟩
          obtain ⟨g5, R5, r5⟩ := newL_ok R4 (rp_strV _) e ha
          exact q _ _ _ _ (((g1.trans g2).trans g3).trans g5) R5 r5
        | cons x rest =>
          rw [hd] at q3
          obtain ⟨hx, hr⟩ := drop_cons hd
          have hlt : i < ds.length := (List.getElem?_eq_some_iff.mp hx).1
          obtain ⟨s1, s2⟩ := sv.new R3 (g2.trans g3).ex hx
          refine .inr ⟨s1, fun H2 => ∃ m', m' < n ∧ ∃ μ2 Hd2 l2, Gr (μ1 ++ [D]) Hd1 μ2 Hd2 ∧ Rl K μ2 Hd2 H2 (L2.wipe σ [p]) (wipeE [p] ⟨E1.sl, E1.ce ++ [Ce.pin (SetTO P w D l2)]⟩) ∧ m' = ds.length - (i + 1) ∧ l2.length ≤ 60 ∧ gather tf mf (ds.drop (i + 1)) l2 = some acc, fun _ h => h, fun v H3 hy => ?_⟩
          obtain ⟨Hd4, g4, R4, r4⟩ := s2 v H3 hy
          have hset : ∀ E5, nameG p (.d x) (wipeE [p] ⟨E1.sl, E1.ce ++ [Ce.pin (SetTO P w D l)]⟩) = some E5 → E5 = ⟨E1.sl.set p (some (.d x)), E1.ce ++ [Ce.pin (SetTO P w D l)]⟩ := fun E5 h5 => by
            have : some (En.mk ((E1.sl.set p none).set p (some (.d x))) (E1.ce ++ [Ce.pin (SetTO P w D l)])) = some E5 := h5
            rw [List.set_set] at this
            exact (Option.some.inj this).symm
          refine hg R4 (r := .d x) r4 rfl _ fun μ5 Hd5 H5 σ5 g5 R5 w5 => ⟨w5.trans (by rw [wipe_wipe]), ?_⟩
          rw [hset _ rfl] at R5
          have back : ∀ {H6 : Hp} {μ6 : List Addr} {Hd6 : Hp} {l6 : List Str}, Rl K μ6 Hd6 H6 σ5 ⟨E1.sl.set p (some (.d x)), E1.ce ++ [Ce.pin (SetTO P w D l6)]⟩ → Rl K μ6 Hd6 H6 (L2.wipe σ [p]) (wipeE [p] ⟨E1.sl, E1.ce ++ [Ce.pin (SetTO P w D l6)]⟩) := fun {H6 μ6 Hd6 l6} R6 => by
            have h6 := R6.sl.wipe [p]
            rw [w5, wipe_wipe] at h6
            refine ⟨R6.wo, ?_⟩
            have : wipeO (E1.sl.set p (some (.d x))) [p] = wipeO E1.sl [p] := by
              show (E1.sl.set p _).set p none = E1.sl.set p none
              rw [List.set_set]
            rw [this] at h6
            exact h6
          unfold gather at q3
          split at q3
          · rename_i q5
            split at q3
            · rename_i k q6
              split at q3
              · rename_i hl6
                have e1 := et x E1.sl (E1.ce ++ [Ce.pin (SetTO P w D l)]) hp
                rw [q5] at e1
                refine ht R5 e1 _ fun μ6 Hd6 H6 g6 R6 => ?_
                show te _ _ _
                obtain ⟨y, hy1, hy2⟩ := Option.bind_eq_some_iff.mp q6
                have e2 := em x E1.sl (E1.ce ++ [Ce.pin (SetTO P w D l)]) hp
                rw [hy1] at e2
                refine hm R6 e2 _ fun μ7 Hd7 H7 v7 g7 R7 r7 => ?_
                have ey : y = .str k := by
                  cases y with
                  | str s => rw [Option.some.inj hy2]
                  | _ => cases hy2
                subst ey
                have gg := (((g3.trans g4).trans g5).trans g6).trans g7
                obtain ⟨hD7, ha7⟩ := hat gg R7
                refine ⟨k, l, r7, hD7, by
                  have : (l.length + 1 : Nat) < 64 := by omega
                  exact Nat.lt_trans this (by decide), ?_⟩
                have R8 := R7.setX (c' := .pin (SetTO P w D (putT k l))) (o := SetTO P w D (putT k l)) (get_last1 _ _) rfl ha7 ⟨rfl, fun c q => setTO_code c q, fun _ => nofun⟩
                have hpl := putT_len k l
                rw [show (En.mk (E1.sl.set p (some (Vl.d x))) (E1.ce ++ [Ce.pin (SetTO P w D l)])).ce.set E1.ce.length (.pin (SetTO P w D (putT k l))) = E1.ce ++ [Ce.pin (SetTO P w D (putT k l))] from set_last1 _ _ _] at R8
                exact ⟨ds.length - (i + 1), by omega, μ7, Hd7, putT k l, gg, back R8, rfl, by omega, by rw [hr]; exact q3⟩
              · cases q3
            · cases q3
          · rename_i q5
            have e1 := et x E1.sl (E1.ce ++ [Ce.pin (SetTO P w D l)]) hp
            rw [q5] at e1
            refine ht R5 e1 _ fun μ6 Hd6 H6 g6 R6 => ?_
            show ∃ m', _
            exact ⟨ds.length - (i + 1), by omega, μ6, Hd6, l, ((g3.trans g4).trans g5).trans g6, back R6, rfl, hl, by rw [hr]; exact q3⟩
          · cases q3
      · cases e
    · cases e
  · cases e
section
variable {X : Cx} {elt tg iter : Expr} {ifs : List Expr} {te : TE} {me : M Vl} {pos q cpos : Pos} {scope : Scope} {x : Str} {p : Nat} {wi : TI} {mi : M (List Dt)} {g : TG} {tt : TT} {mt : M Bool} {tf : Dt → Option Bool} {mf : Dt → Option Dt}
/-- sorted({e for x in d if c}), c and the text e by x alone -/
theorem xsortP (hm : X.mg "sorted" = none) (hv : bootBuiltins "sorted" = some (.builtin "sorted")) (hc : X.calm = true) (hN : X.N.Nodup) (hi : Ix_ X tg iter wi mi) (ok : BlkOk X.N X.env.scope scope [(x, p)])
    (hg : ∀ (s : Shared) (H : Hp) (C : Addr) (cl : List (Str × Addr)) (fp : List Addr), Gc (X.blk s H scope (compEnvC scope cl C X.env) fp) [p] tg g (nameG p))
    (ht : ∀ (s : Shared) (H : Hp) (C : Addr) (cl : List (Str × Addr)) (fp : List Addr), Px (X.blk s H scope (compEnvC scope cl C X.env) fp) ifs tt mt)
    (he : ∀ (s : Shared) (H : Hp) (C : Addr) (cl : List (Str × Addr)) (fp : List Addr), Ex_ (X.blk s H scope (compEnvC scope cl C X.env) fp) elt te me) (et : EqP p mt tf) (em : EqM p me mf) (hs : ∀ x, foldedSetIterable iter X.env x = pure x := by intro _; rfl)
    (hG : Gl X "sorted" := by rfl) (hst : starEach [Expr.SetComp elt [⟨tg, iter, ifs, 0⟩] scope pos] X.env = (false, eval (Expr.SetComp elt [⟨tg, iter, ifs, 0⟩] scope pos) X.env) :: starEach [] X.env := by rfl) (hpl : (backTo cpos (starEach [] X.env)).any (·.1) = false := by rfl) :
    Ex_ X (.Call (.Name "sorted" q) [.SetComp elt [⟨tg, iter, ifs, 0⟩] scope pos] [] cpos) (tCB (rST X.prog X.w) (tCons (tScT X.prog X.w wi g tt te [p]) tNil)) (sortPM p tf mf mi) :=
  ⟨pe_callB (cr_sT hc) hG hm hv (pa_cons (pe_scT (own := [(x, p)]) hc hN hi.pi ok (fun s H C cl fp => (hg s H C cl fp).pg) (fun s H C cl fp => (ht s H C cl fp).pt) (fun s H C cl fp => (he s H C cl fp).pe) hs) pa_nil hst) (by decide) (by decide) hst hpl,
   em_sortP hi.im (hg X.s_0 X.H_0 0 [] []).gm (ht X.s_0 X.H_0 0 [] []).tm (he X.s_0 X.H_0 0 [] []).em et em⟩
end
end Hk
/-! Hk46: comprehensions over the items of a dict that is data. -/
namespace Hk
open PySem PySem.Spec PyProof.Rows L2 Evl
section
variable {K : PySem.W.Frag}
end
section
variable {X : Cx} {elt e : Expr} {els ifs : List Expr} {te td : TE} {m ms : M Vl} {pos apos cpos tpos : Pos} {kn : Nat} {scope : Scope} {own : List (Str × Nat)} {g : TG} {gm : Vl → En → Option En} {tt : TT} {mt : M Bool}
end
end Hk
/-! Hk47: what the law's own def promises where the claim calls it (there no repr is under way). -/
namespace Hk
open PySem PySem.Spec PyProof.Rows L2 Evl
section
variable {P : Program} {w : World} {K : PySem.W.Frag} {mg : Str → Option Value} {base : Heap} {CX : CXT}
end
end Hk
/-! Hk48: repr of a dict from texts to rows. -/
namespace Hk
open PySem PySem.Spec PyProof.Rows L2 Evl
end Hk
/-! Hk49: items of the item at hand. -/
namespace Hk
open PySem PySem.Spec PyProof.Rows L2 Evl
theorem eqm_at {p : Nat} {i : Int} : EqM p (bindM (vM p) fun x => bindM (retM (.d (.int i))) (ixF x)) (fun d => ixD d (.int i)) := by
  have h := eqm_bind (p := p) (eqm_v (p := p)) (k := fun x => bindM (retM (.d (.int i))) (ixF x)) (g := fun x d => ixD x (.int i)) fun x => (eqm_bind (p := p) (eqm_c (p := p) (c := .int i)) (k := ixF (.d x)) (g := fun y d => ixD x y) fun y => eqm_ix)
  exact h
theorem eqp_at {p : Nat} {i : Int} {c : Dt} : EqP p (bindM (bindM (bindM (vM p) fun x => bindM (retM (.d (.int i))) (ixF x)) fun x => bindM (retM (.d c)) (op2 eqF x)) boolM) (fun d => ((ixD d (.int i)).bind fun x => eqF x c).bind blD) := by
  have h := eqp_bool (eqm_bind (p := p) (eqm_at (p := p) (i := i)) (k := fun x => bindM (retM (.d c)) (op2 eqF x)) (g := fun x d => eqF x c) fun x => (eqm_bind (p := p) (eqm_c (p := p) (c := c)) (k := op2 eqF (.d x)) (g := fun y d => eqF x y) fun y => eqm_op))
  exact h
theorem re_gc {X : Cx} {own : List Nat} {e : Expr} {g g' : TG} {gm : Vl → En → Option En} (h : Gc X own e g gm) (q : g = g') : Gc X own e g' gm := by
  subst q
  exact h
end Hk
/-! Hk50: `is` and `is not` of two truths. -/
namespace Hk
open PySem PySem.Spec PyProof.Rows L2 Evl
end Hk
/-! Hk51: a set made of a list of texts. -/
namespace Hk
open PySem PySem.Spec PyProof.Rows L2 Evl
/-- the texts met, each once -/
def gotT (v : Nat → Str) : Nat → List Str
  | 0 => []
  | i + 1 => putT (v i) (gotT v i)
theorem gotT_len (v : Nat → Str) : ∀ i, (gotT v i).length ≤ i
  | 0 => Nat.le_refl _
  | i + 1 => Nat.le_trans (putT_len _ _) (Nat.succ_le_succ (gotT_len v i))
theorem str_at : ∀ {vs : List Value} {ks : List Str}, StrsAre vs ks → ∀ (i : Nat) (v : Value), vs[i]? = some v → ∃ t, v = .str (ks.getD i Str.empty) t
  | [], [], .nil, i, v, h => by cases h
  | _ :: _, _ :: _, .cons k t _, 0, v, h => ⟨t, (Option.some.inj h).symm⟩
  | _ :: _, _ :: _, .cons k t r, i + 1, v, h => str_at r i v h
section
variable {P : Program} {w : World} {A : Around}
/-- one text more -/
theorem putIn_raw {E : Value → Shared → Prop} {s : Shared} {a : Addr} {l : List Str} {k : Str} {u : Tok} {Q : Bool → Shared → Prop} (R : TxAt P w s.heap a l) (room : l.length + 1 < scanBound)
    (q : ∀ b h', Heap.SameBut a s.heap h' → TxAt P w h' a (putT k l) → Q b { s with heap := h', toks := s.toks + 1 }) : wpAny (model P w) A (setAdd a (.str k u)) Q E s := by
  obtain ⟨D, ho, r⟩ := R
  unfold setAdd
  refine wpAny_holding (wpAny_bind ((strKind P w).pyHash (Froz.is_str k u) ?_))
  by_cases hk : k ∈ l
  · refine met_x (s := { s with toks := s.toks + 1 }) ho r.ok hk (by omega) ?_
    have z := q false s.heap (Heap.SameBut.refl a s.heap)
    unfold putT at z; rw [if_pos hk] at z
    exact z ⟨D, ho, r⟩
  · refine Froz.add_x (s := { s with toks := s.toks + 1 }) ho r.ok hk (by omega) ?_
    have z := q true _ (same_upd (h := s.heap) (b := a) (f := fun _ => Froz.sObj "set" (Froz.addTx (hashStr w k) (.str k u) D)))
    unfold putT at z; rw [if_neg hk] at z
    exact z ⟨_, Froz.get_upd _ ho rfl, r.more hk⟩
theorem fill_raw {R : Result → Shared → Prop} {I : Addr} {fp wr : List Addr} {G : Array GenState → Array GenState → Prop} {n : Nat} {T : Nat → Value → Prop} {St : Nat → Shared → Prop} (W : WalksS P w A.in1 I fp wr G n T St) {S : Addr} (away : S ∉ fp)
    {v : Nat → Str} (hv : ∀ i x, T i x → ∃ t, x = .str (v i) t) (hb : n + 1 < scanBound) :
    ∀ (left i : Nat) (s : Shared), n = i + left → St i s → TxAt P w s.heap S (gotT v i) →
      (∀ s', Moved (S :: wr) G s s' → TxAt P w s'.heap S (gotT v n) → R (.ok (.ret .none)) s') → codeAny (model P w) A (.builtin "set.update.loop" ⟨[.ref S, .ref I], []⟩) R s
  | 0, i, s, hn, hs, hS, q => by
    cases hn
    have out : S ∉ wr := fun z => away (W.sub _ z)
    refine codeAny_builtin F.entry_set_update_loop ?_
    rw [Around.under_plainId F.plain_set_update_loop _]
    show wpAny _ A.in1 (pyNext (.ref I) >>= _) _ _ s
    refine wpAny_bind (W.done s _ _ hs fun s' hm => ?_)
    show wpAny _ A.in1 (ret Value.none) _ _ s'
    exact wpAny_pure (q s' (hm.mono fun _ z => List.mem_cons_of_mem _ z) (hS.old fun o e => hm.heap S _ out e))
  | left + 1, i, s, hn, hs, hS, q => by
    have lt : i < n := by omega
    have out : S ∉ wr := fun z => away (W.sub _ z)
    refine codeAny_builtin F.entry_set_update_loop ?_
    rw [Around.under_plainId F.plain_set_update_loop _]
    show wpAny _ A.in1 (pyNext (.ref I) >>= _) _ _ s
    refine wpAny_bind (W.item i s _ _ lt hs fun x s1 hx hs1 hm => ?_)
    obtain ⟨t, rfl⟩ := hv i x hx
    show wpAny _ A.in1 (holding [Value.str (v i) t] (setAdd S (.str (v i) t)) >>= _) _ _ s1
    have len := gotT_len v i
    refine wpAny_bind (wpAny_holding (putIn_raw (hS.old fun o e => hm.heap S _ out e) (by omega) fun b h' sb hS2 => ?_))
    refine wpAny_pure ⟨plainId_quiet F.plain_set_update_loop _, fill_raw W away hv hb left (i + 1) _ (by omega) (W.frame _ s1 _ _ hs1 (Nat.le_succ _) fun b hb o e => ?_) hS2 fun s2 hm2 hS3 => ?_⟩
    · rw [sb.2 b (fun z : b = S => away (by rw [← z]; exact hb))]; exact e
    · refine q s2 (Moved.trans W.gtrans ((hm.mono fun _ z => List.mem_cons_of_mem _ z).then_heap (Nat.le_succ _) fun b o hb e => ?_) hm2) hS3
      rw [sb.2 b (fun z : b = S => hb (by rw [z]; exact List.mem_cons_self))]; exact e
section
variable {E : Value → Shared → Prop} {s : Shared}
/-- a set in which nothing is -/
abbrev fsO (w : World) : Obj := { cls := .type "set", dict := none, data := .set #[] 0 (.fresh 0 0 (!w.params.followText "set-order")) }
theorem setOf_raw {l : Addr} {items : Array Value} {ks : List Str} {Q : Value → Shared → Prop} (hh : A.handled = none) (hl : s.heap.IsList l items) (hi : StrsAre items.toList ks) (hb : items.size + 1 < scanBound)
    (q : ∀ (h' : Heap) (tk : Nat), TxAt P w h' s.heap.objs.size (gotT (fun i => ks.getD i Str.empty) items.size) → (∀ b o, s.heap.get? b = some o → h'.get? b = some o) → Q (.ref s.heap.objs.size) { s with heap := h', toks := tk }) :
    wpAny (model P w) A (call (.type "set") [.ref l]) Q E s := by
  obtain ⟨c, tl, mro⟩ := F.called_set.mro
  have made := F.called_set.made; have sub := F.called_set.sub
  refine wpAny_call (codeAny_of_tree ?_); show wpAny _ _ (callAny (.type "set") _) _ _ _
  refine wpAny_pure ⟨Code.quiet_builtin _ (by decide +kernel), codeAny_builtin F.entry_type_call ?_⟩
  rw [Around.under_plain (weight_type_call_type "set" [.ref l] []) rfl]
  have f1 := F.called_set.notType; have f2 := F.called_set.canCreate
  have f3 := F.typeCall_set_1 (.ref l)
  repeat (any_goals (first | assumption | wp_step))
  refine codeAny_mono (code_set_led1 (.ref l) (E := E) (Q₁ := fun z t => z = .ref s.heap.objs.size ∧ t = { s with heap := s.heap.push (fsO w) }) ⟨rfl, rfl⟩) fun r t hr => ?_
  cases r with
  | error e => exact hr
  | ok fl =>
    cases fl with
    | ret z =>
      obtain ⟨rfl, rfl⟩ := hr
      have g0 : (s.heap.push (fsO w)).get? s.heap.objs.size = some (fsO w) := Heap.get?_push_size _ rfl
      have ty : Shared.TypeIs { s with heap := s.heap.push (fsO w) } (.ref s.heap.objs.size) "set" := ⟨_, g0, rfl⟩
      have f4 := F.called_set.init.lookup
      have f5 := F.called_set.init.bind (.ref s.heap.objs.size)
      repeat (any_goals (first | assumption | wp_step))
      refine codeAny_mono (codeAny_call_builtin (R := wants (fun r t => r = .none ∧ ∃ h' tk, t = { s with heap := h', toks := tk } ∧ TxAt P w h' s.heap.objs.size (gotT (fun i => ks.getD i Str.empty) items.size) ∧ (∀ b o, s.heap.get? b = some o → h'.get? b = some o)) E) F.called_set.init.plain F.entry_set_init (check_set_init_1 ty ?_)) fun r2 t2 hr2 => ?_
      · obtain ⟨ol, ho, hc, nl, hd⟩ := hl
        obtain ⟨cls0, dict0, data0, slots0⟩ := ol
        simp only at hc hd
        subst hc; subst hd
        have ho2 : (s.heap.push (fsO w)).get? l = some { cls := .type "list", dict := dict0, data := .seq items nl, slots := slots0 } := Heap.get?_push_of_some _ ho
        have f6 := F.sub_list_set; have f7 := F.sub_list_frozenset
        have f8 : (Value.type "list" == Value.type "dict") = false := by decide
        have l1 : (s.heap.push (fsO w)).IsList l items := ⟨_, ho2, rfl, nl, rfl⟩
        unfold Builtin.«set.__init__» noKeywords Builtin.Frozenset.updateFrom
        generalize hP : pyIter = PI; wp_walk; subst hP
        refine wpAny_pyIter_list l1 (wpAny_bind (wpAny_runValue ?_))
        have lS : l < s.heap.objs.size := Heap.lt_size ho
        have h3 : A.in1.in1.in1.handled = none := by simp [hh]
        have sz : (s.heap.push (fsO w)).objs.size = s.heap.objs.size + 1 := Heap.size_push ..
        have nI : l ≠ (s.heap.push (fsO w)).objs.size := fun z => Nat.ne_of_lt (Nat.lt_succ_of_lt lS) (z.trans sz)
        have out : s.heap.objs.size ∉ [(s.heap.push (fsO w)).objs.size, l] := by
          simp only [List.mem_cons, List.not_mem_nil, or_false, not_or]
          exact ⟨fun z => Nat.ne_of_lt (Nat.lt_succ_self _) (z.trans sz), fun z => Nat.ne_of_lt lS z.symm⟩
        refine fill_raw ((Walks.list h3 _ l nI items).toS) out (v := fun i => ks.getD i Str.empty) (fun i x hx => str_at hi i x (by rw [Array.getElem?_toList]; exact hx)) hb items.size 0 _ (by omega) ⟨⟨_, Heap.get?_push_size _ rfl, rfl, rfl⟩, (l1.push _)⟩ ?hA ?hB
        case hA => exact fresh_x.old fun o e => Heap.get?_push_of_some _ e
        case hB =>
          intro s' hm hS
          obtain ⟨h', g2, d2, tk2, os2⟩ := s'
          cases (show g2 = s.gens from hm.gens)
          cases (show d2 = s.drawn from hm.drawn)
          cases (show os2 = s.os from hm.os)
          show wpAny _ _ _ _ _ _
          refine wpAny_pure ?_
          show wpAny _ _ (ret Value.none) _ _ _
          refine wpAny_pure ⟨rfl, h', tk2, rfl, hS, fun b o e => ?_⟩
          have lb : b < s.heap.objs.size := Heap.lt_size e
          refine hm.heap b o ?_ (Heap.get?_push_of_some _ (Heap.get?_push_of_some _ e))
          simp only [List.mem_cons, List.not_mem_nil, or_false, not_or]
          exact ⟨fun z => Nat.ne_of_lt lb z, fun z => Nat.ne_of_lt (Nat.lt_succ_of_lt lb) (z.trans sz)⟩
      · cases r2 with
        | error e => exact hr2
        | ok fl2 =>
          cases fl2 with
          | ret r =>
            obtain ⟨rfl, h', tk, rfl, hS, hk⟩ := hr2
            repeat (any_goals (first | assumption | wp_step))
            exact q _ _ hS hk
          | _ => exact hr2.elim
    | _ => exact hr.elim
end
end
/-! ### the rule -/
def rSetL (K : PySem.W.Frag) (P : Program) (w : World) : List V → Hp → VK → Prop := fun xs H Q => ∃ (l : Addr) (ks : List Str), xs = [V.ref l] ∧ SqL K H l (ks.map V.str) ∧ ks.length < 60 ∧
  ∀ a, H a = none → Q (.ref a) (upd H a (SetTO P w a (gotT (fun i => ks.getD i Str.empty) ks.length)))
theorem strs_vals : ∀ {ks : List Str} {us : List Value}, Vals (ks.map V.str) us → StrsAre us ks
  | [], _, .nil => .nil
  | k :: ks, _, .cons r t => by
    obtain ⟨u, rfl⟩ := r
    exact .cons k u (strs_vals t)
theorem strs_len : ∀ {vs : List Value} {ks : List Str}, StrsAre vs ks → vs.length = ks.length
  | _, _, .nil => rfl
  | _, _, .cons _ _ r => congrArg Nat.succ (strs_len r)
theorem cr_setL {X : Cx} (hc : X.calm = true) : CallR X (.type "set") (rSetL X.K X.prog X.w) := by
  intro pins s σ H xs us Q I r h
  obtain ⟨l, ks, rfl, hl, hk, q⟩ := h
  rw [Vals.ref1 r]
  obtain ⟨its, rv, pl, _⟩ := I.list hl
  have hn : H s.heap.objs.size = none := I.hok.fresh (Nat.le_refl _)
  have st := strs_vals rv
  have len : its.toArray.size = ks.length := by
    rw [List.size_toArray]
    exact strs_len st
  refine setOf_raw (P := X.prog) (w := X.w) (ks := ks) (I.ok.hd hc) pl.isList (by simpa using st) (by rw [len]; unfold scanBound; omega) fun h' tk t k => ?_
  rw [len] at t
  exact ⟨.ref s.heap.objs.size, upd H s.heap.objs.size (SetTO X.prog X.w s.heap.objs.size (gotT (fun i => ks.getD i Str.empty) ks.length)), I.laid (t' := tk) k (Nat.le_refl _) (setTO_new t), rfl, q _ hn⟩
end Hk
/-! Hk52: sorted(set(xs)), xs a list of texts. -/
namespace Hk
open PySem PySem.Spec PyProof.Rows L2 Evl
def txtsD : List Dt → Option (List Str)
  | [] => some []
  | .str s :: r => (txtsD r).map (s :: ·)
  | _ :: _ => none
theorem txtsD_ok : ∀ {ds : List Dt} {ks : List Str}, txtsD ds = some ks → ds = ks.map .str
  | [], ks, h => by cases h; rfl
  | d :: r, ks, h => by
    cases d with
    | str s =>
      obtain ⟨t, h1, rfl⟩ := Option.map_eq_some_iff.mp h
      rw [txtsD_ok h1]
      rfl
    | _ => cases h
theorem rp_txts {K : PySem.W.Frag} {H : Hp} : ∀ {ks : List Str} {vs : List V}, RpA K H (ks.map .str) vs → vs = ks.map V.str
  | [], vs, h => h
  | k :: ks, vs, h => by
    obtain ⟨v, us, rfl, h1, h2⟩ := h
    rw [rp_txts h2, show v = V.str k from h1]
    rfl
/-- the texts, each once, ascending -/
def setS1 (ks : List Str) : List Str := sortS (gotT (fun i => ks.getD i Str.empty) ks.length)
def sortSM (m : M Vl) : M Vl := fun E => match m E with
  | some (r, E1) => match (lstS E1.ce r).bind txtsD with
    | some ks => if ks.length < 60 then newL ((setS1 ks).map .str) ⟨E1.sl, E1.ce ++ [.dead]⟩ else none
    | none => none
  | none => none
theorem em_sortS {K : PySem.W.Frag} {P : Program} {w : World} {ta : TE} {ma : M Vl} (h : EM K ta ma) : EM K (tCB (rST P w) (tCons (tCB (rSetL K P w) (tCons ta tNil)) tNil)) (sortSM ma) := fun {μ Hd H σ E r E'} R e Q q => by
  unfold sortSM at e
  split at e
  · rename_i r1 E1 q1
    split at e
    · rename_i ks q2
      split at e
      · rename_i hl
        obtain ⟨ds, q3, q4⟩ := Option.bind_eq_some_iff.mp q2
        have := txtsD_ok q4
        subst this
        refine h R q1 _ fun μ1 Hd1 H1 v g1 R1 v1 => ?_
        obtain ⟨a, vs, rfl, sq, ra⟩ := lstS_ok R1.wo v1 q3
        rw [rp_txts ra] at sq
        refine ⟨a, ks, rfl, sq, hl, fun D hD => ?_⟩
        have gl := gotT_len (fun i => ks.getD i Str.empty) ks.length
        obtain ⟨g2, R2, _⟩ := R1.newX (c := .pin (SetTO P w D (gotT (fun i => ks.getD i Str.empty) ks.length))) (o := SetTO P w D (gotT (fun i => ks.getD i Str.empty) ks.length)) hD ⟨rfl, fun c q => setTO_code c q, fun _ => nofun⟩
        refine ⟨D, gotT (fun i => ks.getD i Str.empty) ks.length, rfl, if_pos rfl, by omega, fun p hp => ?_⟩
        obtain ⟨g5, R5, r5⟩ := newL_ok (rl_dead R2) (rp_strV _) e hp
        exact q _ _ _ _ ((g1.trans g2).trans g5) R5 r5
      · cases e
    · cases e
  · cases e
section
variable {X : Cx} {a : Expr} {ta : TE} {ma : M Vl} {p q cpos spos : Pos}
theorem xsortS (hm : X.mg "sorted" = none) (hv : bootBuiltins "sorted" = some (.builtin "sorted")) (hm2 : X.mg "set" = none) (hv2 : bootBuiltins "set" = some (.type "set")) (hc : X.calm = true) (ha : Ex_ X a ta ma)
    (hG : Gl X "sorted" := by rfl) (hG2 : Gl X "set" := by rfl) (st : starEach [a] X.env = (false, eval a X.env) :: starEach [] X.env := by rfl) (pl : (backTo spos (starEach [] X.env)).any (·.1) = false := by rfl)
    (hst : starEach [Expr.Call (.Name "set" p) [a] [] spos] X.env = (false, eval (Expr.Call (.Name "set" p) [a] [] spos) X.env) :: starEach [] X.env := by rfl) (hpl : (backTo cpos (starEach [] X.env)).any (·.1) = false := by rfl) :
    Ex_ X (.Call (.Name "sorted" q) [.Call (.Name "set" p) [a] [] spos] [] cpos) (tCB (rST X.prog X.w) (tCons (tCB (rSetL X.K X.prog X.w) (tCons ta tNil)) tNil)) (sortSM ma) :=
  ⟨pe_callB (cr_sT hc) hG hm hv (pa_cons (pe_callTy (cr_setL hc) hG2 hm2 hv2 (pa_cons ha.pe pa_nil st) (by decide) (by decide) st pl) pa_nil hst) (by decide) (by decide) hst hpl, em_sortS ha.em⟩
end
end Hk
/-! Hk53: written tuples of written tuples. -/
namespace Hk
open PySem PySem.Spec PyProof.Rows L2 Evl
end Hk
/-! Hk54: x in xs, xs a list of instances of a class with an own __eq__, none of which is equal to x. -/
namespace Hk
open PySem PySem.Spec PyProof.Rows L2 Evl
section
variable {X : Cx} {CX : CXT} {k n : Nat} {C f : Addr} {fd : FuncData} {ps : List Str} {sp : Sp} {E : XK} {A : Around}
end
/-! ### the reading -/
section
variable {K : PySem.W.Frag} {H Hd : Hp} {μ : List Addr}
end
section
variable {X : Cx} {a b : Expr} {ta tb : TE} {ma mb : M Vl} {pos : Pos} {C fld : Str} {k : Nat} {fa : Addr} {fd : FuncData} {ps : List Str} {G : Fn} {CX : CXT} {E : XK}
end
end Hk
/-! Hk55: comprehensions by lists; small pieces that each law wants. -/
namespace Hk
open PySem PySem.Spec PyProof.Rows L2 Evl
theorem comp_map {α : Type} {v : Nat} {mi : M (List Dt)} {t : M Bool} {m : M Vl} {E : En} {sl : List (Option Vl)} {ce : List Ce} (xs : List α) (h : α → Dt) (p : α → Bool) (F : α → Dt) (hi : mi E = some (xs.map h, ⟨sl, ce⟩)) (hv : v < sl.length) (hn : xs.length < 100000)
    (hs : ∀ a ∈ xs, ∀ (c : Ce) (gs : List Ce), ∃ gs', t ⟨sl.set v (some (.d (h a))), ce ++ [c] ++ gs⟩ = some (p a, ⟨sl.set v (some (.d (h a))), ce ++ [c] ++ gs'⟩) ∧ (p a = true → ∃ r E3 gs'', m ⟨sl.set v (some (.d (h a))), ce ++ [c] ++ gs'⟩ = some (r, E3) ∧ fzM r E3 = some (F a, ⟨sl.set v (some (.d (h a))), ce ++ [c] ++ gs''⟩))) :
    ∃ gs, compM [v] mi (nameG v) t m E = some (.c ce.length, ⟨sl, ce ++ [.lst ((xs.filter p).map F)] ++ gs⟩) := by
  have fl : ∀ n, ((xs.take n).filter p).length ≤ xs.length := fun n => Nat.le_trans (List.length_filter_le _ _) (by rw [List.length_take]; omega)
  obtain ⟨E2, ec, z, gs, e⟩ := comp_inv (own := [v]) (k := ce.length) (g := nameG v) (t := t) (m := m) (fun i E => ∃ (z : Option Vl) (gs : List Ce), E = ⟨sl.set v z, ce ++ [.lst (((xs.take i).filter p).map F)] ++ gs⟩) (xs.map h) 0 ⟨sl, ce ++ [.lst []]⟩
    ⟨sl[v]'hv, [], by rw [List.append_nil, List.set_getElem_self]; rfl⟩ (fun i d E hd hp => by
      obtain ⟨z, gs, rfl⟩ := hp
      rw [Nat.zero_add]
      rw [List.getElem?_map] at hd
      cases hx : xs[i]? with
      | none =>
        rw [hx] at hd
        cases hd
      | some a =>
        rw [hx] at hd
        cases hd
        have et : xs.take (i + 1) = xs.take i ++ [a] := by rw [List.take_succ, hx]; rfl
        obtain ⟨gs', ht, hm⟩ := hs a (List.mem_of_getElem? hx) (.lst (((xs.take i).filter p).map F)) gs
        have hg : nameG v (.d (h a)) (wipeE [v] ⟨sl.set v z, ce ++ [.lst (((xs.take i).filter p).map F)] ++ gs⟩) = some ⟨sl.set v (some (.d (h a))), ce ++ [.lst (((xs.take i).filter p).map F)] ++ gs⟩ := by
          show some (En.mk (((sl.set v z).set v none).set v (some (.d (h a)))) _) = _
          rw [List.set_set, List.set_set]
          rfl
        rw [et, List.filter_append, List.map_append]
        cases hb : p a with
        | true =>
          rw [hb] at ht
          obtain ⟨r, E3, gs'', h1, h2⟩ := hm hb
          have hl := fl i
          refine ⟨_, zt_yes hg ht h1 h2 (get_mid _ _ _) (by rw [List.length_map]; omega), some (.d (h a)), gs'', ?_⟩
          rw [set_mid, List.filter_cons, hb]
          rfl
        | false =>
          rw [hb] at ht
          refine ⟨_, zt_no hg ht, some (.d (h a)), gs', ?_⟩
          rw [List.filter_cons, hb]
          simp)
  rw [List.length_map, Nat.zero_add, List.take_length] at e
  refine ⟨gs, ?_⟩
  rw [zv_comp hi ec, e]
  have hb : bring sl (sl.set v z) [v] = sl := by
    show (sl.set v z).set v (sl[v]?.getD none) = sl
    rw [List.set_set, List.getElem?_eq_getElem hv]
    exact List.set_getElem_self hv
  rw [hb]
/-- the same where nothing is asked -/
theorem comp_all {α : Type} {v : Nat} {mi : M (List Dt)} {m : M Vl} {E : En} {sl : List (Option Vl)} {ce : List Ce} (xs : List α) (h : α → Dt) (F : α → Dt) (hi : mi E = some (xs.map h, ⟨sl, ce⟩)) (hv : v < sl.length) (hn : xs.length < 100000)
    (hs : ∀ a ∈ xs, ∀ (c : Ce) (gs : List Ce), ∃ r E3 gs'', m ⟨sl.set v (some (.d (h a))), ce ++ [c] ++ gs⟩ = some (r, E3) ∧ fzM r E3 = some (F a, ⟨sl.set v (some (.d (h a))), ce ++ [c] ++ gs''⟩)) :
    ∃ gs, compM [v] mi (nameG v) (retM true) m E = some (.c ce.length, ⟨sl, ce ++ [.lst (xs.map F)] ++ gs⟩) := by
  have h := comp_map (t := retM true) (m := m) xs h (fun _ => true) F hi hv hn fun a ha c gs => ⟨gs, rfl, fun _ => hs a ha c gs⟩
  rw [List.filter_eq_self.mpr fun _ _ => rfl] at h
  exact h
theorem zv_dsp {n : Nat} {ps : List (M Vl × M Vl)} {sl : List (Option Vl)} {ce : List Ce} {xs : List (Vl × Vl)} {E1 : En} {ks : List Key} {ds : List Dt} (h1 : prsM ps ⟨sl, ce ++ [.dic [] []]⟩ = some (xs, E1)) (h2 : keysV xs = some ks) (h3 : fzA (xs.map (·.2)) E1 = some (ds, ⟨sl, ce ++ [.dic [] []]⟩)) :
    dspM n ps ⟨sl, ce⟩ = some (.c ce.length, ⟨sl, ce ++ [.dic (mrgN [] ks) (mrgD [] [] ks ds)]⟩) := by
  unfold dspM
  rw [h1]
  simp only [h2, h3, get_new, set_new]
theorem seeK_new (ce : List Ce) (ks : List Key) (ds : List Dt) : seeK (ce ++ [.dic ks ds]) (.c ce.length) = some (ks, ds) := by
  show (match (ce ++ [Ce.dic ks ds])[ce.length]? with
    | some (.dic ks ds) => some (ks, ds)
    | some (.lkd ks ds) => some (ks, ds)
    | _ => none) = _
  rw [get_new]
theorem zv_dg {mo mi : M Vl} {E E1 E2 : En} {x y : Vl} {ks : List Key} {ds : List Dt} {k : Key} {d : Dt} (h : mo E = some (x, E1)) (g : mi E1 = some (y, E2)) (s : seeK E2.ce x = some (ks, ds)) (hk : keyV y = some k) (e : kGet k ks ds = some d) : dgM mo mi E = some (.d d, E2) := zv_bind h (zv_bind g (by
  show (match seeK E2.ce x, keyV y with
    | some (ks, ds), some k => (kGet k ks ds).map fun d => (Vl.d d, E2)
    | _, _ => none) = _
  rw [s, hk]
  show (kGet k ks ds).map _ = _
  rw [e]
  rfl))
/-! ### text_with -/
/-- a list of texts -/
theorem eqd_txts {ks : List Str} (h : ∀ k ∈ ks, PyData.strOk k = true) : eqd (.lst (ks.map .str)) (.lst (ks.map .str)) = some true := by
  have e1 : toPA (ks.map .str) = some (ks.map .str) := by
    clear h
    induction ks with
    | nil => rfl
    | cons f fs ih => simp only [List.map_cons, toPA, toP, ih]
  have e2 : PyData.eqvAll (ks.map .str) (ks.map .str) = true := by
    clear h e1
    induction ks with
    | nil => rfl
    | cons f fs ih => simp [PyData.eqvAll, PyData.eqv, ih]
  have e3 : PyData.canLayAll0 (ks.map .str) = true := by
    clear e1 e2
    induction ks with
    | nil => rfl
    | cons f fs ih => simp [PyData.canLayAll0, PyData.canLay0, h f List.mem_cons_self, ih fun g hg => h g (List.mem_cons_of_mem _ hg)]
  have e4 : PyData.depthAll (ks.map .str) ≤ 1 := by
    clear e1 e2 e3 h
    induction ks with
    | nil => exact Nat.zero_le _
    | cons f fs ih =>
      simp only [List.map_cons, PyData.depthAll, PyData.depth]
      omega
  have et : toP (.lst (ks.map .str)) = some (.list (ks.map .str)) := by
    rw [toP, e1]
    rfl
  unfold eqd
  rw [et]
  show (if _ then _ else _) = _
  rw [if_pos ⟨sh_lst e3 (by omega), sh_lst e3 (by omega)⟩]
  simp only [PyData.eqv, e2]
end Hk
/-! Hk56: a list comprehension over a list that stays a cell: it is read anew at each turn. -/
namespace Hk
open PySem PySem.Spec PyProof.Rows L2 Evl
section
variable {X : Cx} {elt tg iter : Expr} {ifs : List Expr} {ti te : TE} {m ms : M Vl} {pos : Pos}
end
end Hk
/-! Hk57: what dicts of data hold; cuts; texts each once. -/
namespace Hk
open PySem PySem.Spec PyProof.Rows L2 Evl
/-! ### dicts -/
/-! ### cuts, new lists by places, texts each once -/
theorem cut_drop (xs : List Dt) (p : Nat) (h : p ≤ xs.length) : cutD xs (some (p : Int)) none = xs.drop p := by
  unfold cutD
  rw [HT.sIx_none, HT.sIx_nat, Nat.min_eq_left h]
  exact List.take_of_length_le (by rw [List.length_drop]; exact Nat.le_refl _)
theorem newL_at {xs : List Dt} {sl : List (Option Vl)} {X L : List Ce} : newL xs ⟨sl, X ++ L⟩ = some (.c (X.length + L.length), ⟨sl, X ++ (L ++ [.lst xs])⟩) := by
  show some (Vl.c (X ++ L).length, (⟨sl, X ++ L ++ [.lst xs]⟩ : En)) = _
  rw [List.length_append, List.append_assoc]
theorem putT_mem {k x : Str} {l : List Str} : x ∈ putT k l ↔ x = k ∨ x ∈ l := by
  unfold putT
  split
  · rename_i h
    exact ⟨.inr, fun q => q.elim (fun e => e ▸ h) id⟩
  · exact List.mem_cons
theorem putT_nd {k : Str} {l : List Str} (h : l.Nodup) : (putT k l).Nodup := by
  unfold putT
  split
  · exact h
  · rename_i h2
    exact List.nodup_cons.mpr ⟨h2, h⟩
theorem gotT_nd (v : Nat → Str) : ∀ n, (gotT v n).Nodup
  | 0 => List.nodup_nil
  | n + 1 => putT_nd (gotT_nd v n)
theorem gotT_mem (v : Nat → Str) (x : Str) : ∀ n, x ∈ gotT v n ↔ ∃ i, i < n ∧ v i = x
  | 0 => ⟨fun h => (by cases h), fun ⟨i, h, _⟩ => absurd h (Nat.not_lt_zero _)⟩
  | n + 1 => by
    show x ∈ putT (v n) (gotT v n) ↔ _
    rw [putT_mem, gotT_mem v x n]
    constructor
    · rintro (rfl | ⟨i, h1, h2⟩)
      · exact ⟨n, Nat.lt_succ_self _, rfl⟩
      · exact ⟨i, Nat.lt_succ_of_lt h1, h2⟩
    · rintro ⟨i, h1, h2⟩
      rcases Nat.lt_succ_iff_lt_or_eq.mp h1 with h | rfl
      · exact .inr ⟨i, h, h2⟩
      · exact .inl h2.symm
theorem got_list_mem {ks : List Str} {x : Str} : x ∈ gotT (fun i => ks.getD i Str.empty) ks.length ↔ x ∈ ks := by
  rw [gotT_mem]
  constructor
  · rintro ⟨i, h, rfl⟩
    show ks.getD i Str.empty ∈ ks
    rw [List.getD_eq_getElem?_getD, List.getElem?_eq_getElem h]
    exact List.getElem_mem h
  · intro h
    obtain ⟨i, hi, e⟩ := List.mem_iff_getElem.mp h
    refine ⟨i, hi, ?_⟩
    show ks.getD i Str.empty = x
    rw [List.getD_eq_getElem?_getD, List.getElem?_eq_getElem hi]
    exact e
theorem perm_nd2 {a b : List Str} (ha : a.Nodup) (hb : b.Nodup) (h : ∀ x, x ∈ a ↔ x ∈ b) : a.Perm b := (List.perm_ext_iff_of_nodup ha hb).mpr h
theorem sortS_same {a b : List Str} (ha : a.Nodup) (hb : b.Nodup) (h : ∀ x, x ∈ a ↔ x ∈ b) : sortS a = sortS b :=
  le_unique _ _ (((sortS_perm a).trans (perm_nd2 ha hb h)).trans (sortS_perm b).symm) (sortS_le a) (sortS_le b)
theorem setS1_same {ks ss : List Str} (hn : ss.Nodup) (h : ∀ x, x ∈ ss ↔ x ∈ ks) : setS1 ks = sortS ss :=
  (sortS_same hn (gotT_nd _ _) fun x => by rw [got_list_mem]; exact h x).symm
end Hk
/-! Hk58: == and != by an own __eq__ with anything on the right; isinstance of an own class with both answers; repr of data. -/
namespace Hk
open PySem PySem.Spec PyProof.Rows L2 Evl
section
variable {prog : Program} {w : World} {A : Around} {E : Value → Shared → Prop} {s : Shared} {K : PySem.W.Frag} {x C f : Addr} {ox : Obj} {od : Option Obj} {b tb : Value}
end
/-! ### the rules -/
section
variable {K : PySem.W.Frag} {ta : TE} {ma : M Vl}
end
section
variable {X : Cx} {CX : CXT} {k : Nat} {fa : Addr} {fd : FuncData} {ps : List Str} {sp : Sp} {E : XK} {Ca : Addr}
section
variable (F : FnOk X.prog X.w X.K X.mg X.base CX k fa fd ps sp) (hb : Binds X.K fd ps []) (hx : Passes CX X E)
include F hb hx
end
end
section
variable {X : Cx} {a b : Expr} {ta tb : TE} {ma mb : M Vl} {C x : Str} {k : Nat} {fa : Addr} {fd : FuncData} {ps : List Str} {G : Fn} {CX : CXT} {E : XK} {pos p p2 : Pos}
end
end Hk
/-! ### repr of lists and tuples of data -/
namespace Hk
open PySem PySem.Spec PyProof.Rows L2 Evl
/-! ### a list that is lent: it is data while an expression goes on, and a cell again behind it -/
section
variable {K : PySem.W.Frag} {H : Hp} {a : Addr} {xs : List V} {d0 : List Dt}
end
end Hk
/-! Hk59: raise C(e), C with an own __init__; C(..) whose __init__ may raise. -/
namespace Hk
open PySem PySem.Spec PyProof.Rows L2 Evl
section
variable {X : Cx} {W : XK} {e : Expr} {te : TE} {m : M Vl} {y f par : Str} {k : Nat} {fI : Addr} {fd : FuncData} {CX : CXT} {p p2 pos : Pos}
end
section
variable {K : PySem.W.Frag} {W : XK}
section
variable {X : Cx} {e : Expr} {es : List Expr} {tes : TA} {mes : M (List Vl)} {xa : Xm} {x : Str} {n k : Nat} {fa : Addr} {fd : FuncData} {ps : List Str} {G : Fn} {Gx : Fx} {CX : CXT} {p pos : Pos} {W : XK}
end
end
end Hk
/-! Hk60: f(lambda: body), f a def that calls what it got and tells the field of what was raised. -/
namespace Hk
open PySem PySem.Spec PyProof.Rows L2 Evl LamX
section
variable {K : PySem.W.Frag} {μ : List Addr} {Hd H H1 : Hp} {σ : L2.St} {E : En} {P : Addr} {q : Str}
end
/-! ### the def that calls it -/
/-! ### the rule -/
end Hk
namespace Hk
open PySem PySem.Spec PyProof.Rows L2 Evl LamX
section
variable {X : Cx} {scope : Scope}
end
end Hk
/-! Hk61: a law that makes lambdas: its code object is known, its table stands beside the script. -/
namespace Hk
open PySem PySem.Spec PyProof.Rows L2 Evl LamX
section
variable {P : Program} {w : World} {K : PySem.W.Frag} {mg : Str → Option Value} {base : Heap}
end
end Hk
/-! Hk62: the lambda's rule for a def of the text. -/
namespace Hk
open PySem PySem.Spec PyProof.Rows L2 Evl LamX
section
variable {X : Cx}
end
end Hk
namespace Hk
open PySem PySem.Spec PyProof.Rows L2 Evl
section
variable {X : Cx} {W : XK} {o value : Expr} {to tv : TE} {mo mv : M Vl} {C f : Str} {pos pos' : Pos} {x : Xm}
end
end Hk
/-! Hk63: evaluation of mirrors that raise (zx_), or give nothing (zn_). -/
namespace Hk
open PySem PySem.Spec PyProof.Rows L2 Evl
end Hk
/-! Hk64: trees in the store: what stands at a place, what changes there. -/
namespace Hk
open PySem PySem.Spec PyProof.Rows L2 Evl
/-! ### places -/
def subA : AT → List Nat → Option AT
  | α, [] => some α
  | .no, _ :: _ => none
  | .nd _ as, i :: π => match as[i]? with
    | some β => subA β π
    | none => none
def withK : Tr → List Tr → Tr
  | .dat d, _ => .dat d
  | .lst _, ts => .lst ts
  | .dic ks _, ts => .dic ks ts
  | .ins C ns _, ts => .ins C ns ts
def putR : Tr → List Nat → Tr → Tr
  | _, [], s => s
  | t, i :: π, s => match (kidsT t)[i]? with
    | some u => withK t ((kidsT t).set i (putR u π s))
    | none => t
def putA : AT → List Nat → AT → AT
  | _, [], β => β
  | .no, _ :: _, _ => .no
  | .nd a as, i :: π, β => match as[i]? with
    | some γ => .nd a (as.set i (putA γ π β))
    | none => .nd a as
theorem adr_sub : ∀ {π : List Nat} {α : AT} {a : Addr}, adr α π = some a → ∃ as, subA α π = some (.nd a as)
  | [], .no, a, h => by cases h
  | [], .nd b as, a, h => by
    cases h
    exact ⟨as, rfl⟩
  | i :: π, .no, a, h => by cases h
  | i :: π, .nd b as, a, h => by
    have h : (match as[i]? with | some β => adr β π | none => none) = some a := h
    cases q : as[i]? with
    | none =>
      rw [q] at h
      cases h
    | some β =>
      rw [q] at h
      obtain ⟨bs, e⟩ := adr_sub (π := π) h
      refine ⟨bs, ?_⟩
      show (match as[i]? with | some β => subA β π | none => none) = _
      rw [q]
      exact e
theorem subA_adr : ∀ {π ρ : List Nat} {α β : AT}, subA α π = some β → adr α (π ++ ρ) = adr β ρ
  | [], ρ, α, β, h => by
    cases α <;> (cases h; rfl)
  | i :: π, ρ, .no, β, h => by cases h
  | i :: π, ρ, .nd a as, β, h => by
    have h : (match as[i]? with | some β => subA β π | none => none) = some β := h
    cases q : as[i]? with
    | none =>
      rw [q] at h
      cases h
    | some γ =>
      rw [q] at h
      show (match as[i]? with | some β => adr β (π ++ ρ) | none => none) = _
      rw [q]
      exact subA_adr (π := π) h
section
variable {K : PySem.W.Frag} {μ : List Addr} {Hd H H' : Hp}
/-- the values of a node's object -/
def VsOf (K : PySem.W.Frag) (H : Hp) (a : Addr) : Tr → List V → Prop
  | .dat _, _ => False
  | .lst _, vs => H a = some (.lst vs)
  | .dic ks _, vs => ∃ kvs, H a = some (.dK kvs) ∧ kvs.map (·.1) = ks ∧ vs = kvs.map (·.2)
  | .ins C ns _, vs => ∃ dx fs, H a = some (.ins (clA K C) dx fs) ∧ fs.map (·.1) = ns ∧ vs = fs.map (·.2)
theorem node_vs {s : Tr} {a : Addr} {as : List AT} {v : V} (h : AtT K Hd H s (.nd a as) v) : s.node = true ∧ v = .ref a ∧ Hd a = none ∧ ∃ vs, VsOf K H a s vs ∧ AtL K Hd H (kidsT s) as vs := by
  cases s with
  | dat d => cases h.1
  | lst ts =>
    obtain ⟨b, bs, vs, e, e2, h1, h2, h3⟩ := h
    cases e
    exact ⟨rfl, e2, h1, vs, h2, h3⟩
  | dic ks ts =>
    obtain ⟨b, bs, kvs, e, e2, h1, h2, h4, h3⟩ := h
    cases e
    exact ⟨rfl, e2, h1, _, ⟨kvs, h2, h4, rfl⟩, h3⟩
  | ins C ns ts =>
    obtain ⟨b, bs, dx, fs, e, e2, h1, h2, h4, h3⟩ := h
    cases e
    exact ⟨rfl, e2, h1, _, ⟨dx, fs, h2, h4, rfl⟩, h3⟩
theorem vs_node {s : Tr} {a : Addr} {as : List AT} {vs : List V} (hn : Hd a = none) (h1 : VsOf K H a s vs) (h2 : AtL K Hd H (kidsT s) as vs) : AtT K Hd H s (.nd a as) (.ref a) := by
  cases s with
  | dat d => cases h1
  | lst ts => exact ⟨a, as, vs, rfl, rfl, hn, h1, h2⟩
  | dic ks ts =>
    obtain ⟨kvs, q1, q2, rfl⟩ := h1
    exact ⟨a, as, kvs, rfl, rfl, hn, q1, q2, h2⟩
  | ins C ns ts =>
    obtain ⟨dx, fs, q1, q2, rfl⟩ := h1
    exact ⟨a, as, dx, fs, rfl, rfl, hn, q1, q2, h2⟩
theorem node_nd {s : Tr} {β : AT} {v : V} (hn : s.node = true) (h : AtT K Hd H s β v) : ∃ a as, β = .nd a as ∧ v = .ref a := by
  cases s with
  | dat d => cases hn
  | lst ts =>
    obtain ⟨b, bs, vs, e, e2, _⟩ := h
    exact ⟨b, bs, e, e2⟩
  | dic ks ts =>
    obtain ⟨b, bs, vs, e, e2, _⟩ := h
    exact ⟨b, bs, e, e2⟩
  | ins C ns ts =>
    obtain ⟨b, bs, dx, fs, e, e2, _⟩ := h
    exact ⟨b, bs, e, e2⟩
theorem AtT.sub2 : ∀ {π : List Nat} {t s : Tr} {α : AT} {v : V}, AtT K Hd H t α v → subT t π = some s → ∃ β w, subA α π = some β ∧ AtT K Hd H s β w ∧ ∀ x ∈ own β, x ∈ own α
  | [], t, s, α, v, h, hs => by
    cases hs
    exact ⟨α, v, by cases α <;> rfl, h, fun x h => h⟩
  | i :: π, t, s, α, v, h, hs => by
    unfold subT at hs
    cases q : (kidsT t)[i]? with
    | none =>
      rw [q] at hs
      cases hs
    | some u =>
      rw [q] at hs
      have hn : t.node = true := by
        cases t with
        | dat d => cases q
        | _ => rfl
      obtain ⟨a, as, rfl, rfl⟩ := node_nd hn h
      obtain ⟨_, _, _, vs, _, h2⟩ := node_vs h
      obtain ⟨β, w, q1, _, q3⟩ := AtL.get h2 q
      obtain ⟨γ, w2, g1, g2, g3⟩ := AtT.sub2 (π := π) q3 hs
      refine ⟨γ, w2, ?_, g2, fun x hx => List.mem_cons_of_mem _ (own_get q1 x (g3 x hx))⟩
      show (match as[i]? with | some β => subA β π | none => none) = _
      rw [q1]
      exact g1
/-! ### a place changes -/
theorem ownL_set : ∀ {as : List AT} {i : Nat} {β γ : AT}, as[i]? = some β → own γ = own β → ownL (as.set i γ) = ownL as
  | [], i, β, γ, h, _ => by cases h
  | α :: as, 0, β, γ, h, e => by
    cases h
    show own γ ++ ownL as = own α ++ ownL as
    rw [e]
  | α :: as, i + 1, β, γ, h, e => by
    show own α ++ ownL (as.set i γ) = own α ++ ownL as
    rw [ownL_set (as := as) h e]
theorem ownL_disj : ∀ {as : List AT} {i j : Nat} {β γ : AT} {x : Addr}, (ownL as).Nodup → as[i]? = some β → as[j]? = some γ → x ∈ own β → x ∈ own γ → i = j
  | [], i, j, β, γ, x, _, h, _, _, _ => by cases h
  | α :: as, 0, 0, β, γ, x, _, _, _, _, _ => rfl
  | α :: as, 0, j + 1, β, γ, x, hn, hi, hj, h1, h2 => by
    cases hi
    have hn : (own α ++ ownL as).Nodup := hn
    exact absurd rfl ((List.nodup_append.mp hn).2.2 x h1 x (own_get (as := as) hj x h2))
  | α :: as, i + 1, 0, β, γ, x, hn, hi, hj, h1, h2 => by
    cases hj
    have hn : (own α ++ ownL as).Nodup := hn
    exact absurd rfl ((List.nodup_append.mp hn).2.2 x h2 x (own_get (as := as) hi x h1))
  | α :: as, i + 1, j + 1, β, γ, x, hn, hi, hj, h1, h2 => by
    have hn : (own α ++ ownL as).Nodup := hn
    rw [ownL_disj (as := as) (List.nodup_append.mp hn).2.1 hi hj h1 h2]
theorem ownL_mem {x : Addr} : ∀ {as : List AT}, x ∈ ownL as → ∃ (j : Nat) (γ : AT), as[j]? = some γ ∧ x ∈ own γ
  | [], h => by cases h
  | δ :: as, h => by
    rcases List.mem_append.mp (show x ∈ own δ ++ ownL as from h) with h | h
    · exact ⟨0, δ, rfl, h⟩
    · obtain ⟨j, γ, g1, g2⟩ := ownL_mem (as := as) h
      exact ⟨j + 1, γ, g1, g2⟩
theorem AtL.set : ∀ {ts : List Tr} {as : List AT} {vs : List V} {i : Nat} {u : Tr} {β : AT} {w : V}, AtL K Hd H ts as vs → vs[i]? = some w → (∀ (j : Nat) (γ : AT), as[j]? = some γ → j ≠ i → ∀ x ∈ own γ, H' x = H x) → AtT K Hd H' u β w → AtL K Hd H' (ts.set i u) (as.set i β) vs
  | [], as, vs, i, u, β, w, ⟨e, e2⟩, hi, _, _ => by
    subst e2
    cases hi
  | t :: ts, as, vs, 0, u, β, w, ⟨α, ar, v, vr, e, e2, h1, h2⟩, hi, ho, hu => by
    subst e e2
    cases hi
    exact ⟨β, ar, _, vr, rfl, rfl, hu, AtL.keep (fun _ _ h => h) (fun x hx => by
      obtain ⟨j, γ, hj, hx2⟩ := ownL_mem hx
      exact ⟨ho (j + 1) γ hj (Nat.succ_ne_zero j) x hx2, (AtL.at_ h2 x hx).1⟩) h2⟩
  | t :: ts, as, vs, i + 1, u, β, w, ⟨α, ar, v, vr, e, e2, h1, h2⟩, hi, ho, hu => by
    subst e e2
    exact ⟨α, ar.set i β, v, vr, rfl, rfl, AtT.keep (fun _ _ h => h) (fun x hx => ⟨ho 0 α rfl (Nat.succ_ne_zero i).symm x hx, (AtT.at_ h1 x hx).1⟩) h1, AtL.set (ts := ts) h2 hi (fun j γ hj hne x hx => ho (j + 1) γ hj (fun z => hne (Nat.succ.inj z)) x hx) hu⟩
theorem kids_withK {t : Tr} {ts : List Tr} (hn : t.node = true) : kidsT (withK t ts) = ts := by
  cases t with
  | dat d => cases hn
  | _ => rfl
theorem vs_withK {t : Tr} {a : Addr} {vs : List V} {ts : List Tr} (h : VsOf K H a t vs) : VsOf K H a (withK t ts) vs := by
  cases t <;> exact h
theorem vs_H {t : Tr} {a : Addr} {vs : List V} (e : H' a = H a) (h : VsOf K H a t vs) : VsOf K H' a t vs := by
  cases t with
  | dat d => exact h
  | lst ts => exact e.trans h
  | dic ks ts => obtain ⟨kvs, q, r⟩ := h; exact ⟨kvs, e.trans q, r⟩
  | ins C ns ts => obtain ⟨dx, fs, q, r⟩ := h; exact ⟨dx, fs, e.trans q, r⟩
theorem AtT.put {a : Addr} {o : HO} {s s' : Tr} {as as' : List AT} (hat : AtT K Hd (upd H a o) s' (.nd a as') (.ref a)) (hown : own (.nd a as') = own (.nd a as)) (hadr : ∀ ρ c, adr (.nd a as) ρ = some c → adr (.nd a as') ρ = some c) :
    ∀ {π : List Nat} {t : Tr} {α : AT} {v : V}, AtT K Hd H t α v → subT t π = some s → subA α π = some (.nd a as) → (own α).Nodup →
    AtT K Hd (upd H a o) (putR t π s') (putA α π (.nd a as')) v ∧ own (putA α π (.nd a as')) = own α ∧ ∀ ρ c, adr α ρ = some c → adr (putA α π (.nd a as')) ρ = some c
  | [], t, α, v, h, hs, ha, hn => by
    have ea : α = .nd a as := by
      cases α with
      | no => cases ha
      | nd b bs =>
        cases ha
        rfl
    subst ea
    obtain ⟨_, e, _⟩ := node_vs h
    subst e
    have e1 : putR t [] s' = s' := by unfold putR; rfl
    rw [e1]
    exact ⟨hat, hown, hadr⟩
  | i :: π, t, .no, v, h, hs, ha, hn => by cases ha
  | i :: π, t, .nd b bs, v, h, hs, ha, hn => by
    obtain ⟨tn, rfl, hd, vs, h1, h2⟩ := node_vs h
    unfold subT at hs
    have ha : (match bs[i]? with | some β => subA β π | none => none) = some (.nd a as) := ha
    cases q : (kidsT t)[i]? with
    | none =>
      rw [q] at hs
      cases hs
    | some u =>
      rw [q] at hs
      obtain ⟨β, w, q1, q2, q3⟩ := AtL.get h2 q
      rw [q1] at ha
      have hn2 : (b :: ownL bs).Nodup := hn
      obtain ⟨n1, n2⟩ := List.nodup_cons.mp hn2
      have hnb : (own β).Nodup := by
        have : ∀ {bs : List AT} {i : Nat}, (ownL bs).Nodup → bs[i]? = some β → (own β).Nodup := by
          intro bs
          induction bs with
          | nil => intro i _ h; cases h
          | cons δ bs ih =>
            intro i h hb
            have h : (own δ ++ ownL bs).Nodup := h
            cases i with
            | zero =>
              cases hb
              exact (List.nodup_append.mp h).1
            | succ i => exact ih (List.nodup_append.mp h).2.1 hb
        exact this n2 q1
      obtain ⟨g1, g2, g3⟩ := AtT.put hat hown hadr (π := π) q3 hs ha hnb
      have hin : a ∈ own β := by
        obtain ⟨γ, w2, e1, e2, e3⟩ := AtT.sub2 q3 hs
        have ha : subA β π = some (.nd a as) := ha
        rw [ha] at e1
        cases e1
        exact e3 a List.mem_cons_self
      have hab : b ≠ a := fun z => n1 (by
        rw [z]
        exact own_get q1 a hin)
      have et : putR t (i :: π) s' = withK t ((kidsT t).set i (putR u π s')) := by
        conv => lhs; unfold putR
        rw [q]
      have ea : putA (.nd b bs) (i :: π) (.nd a as') = .nd b (bs.set i (putA β π (.nd a as'))) := by
        show (match bs[i]? with | some γ => AT.nd b (bs.set i (putA γ π (.nd a as'))) | none => .nd b bs) = _
        rw [q1]
      rw [et, ea]
      refine ⟨vs_node hd (vs_withK (vs_H (upd_ne hab) h1)) ?_, ?_, fun ρ c hρ => ?_⟩
      · rw [kids_withK tn]
        refine AtL.set h2 q2 (fun j γ hj hne x hx => upd_ne fun z => hne ?_) g1
        subst z
        exact ownL_disj n2 hj q1 hx hin
      · show b :: ownL _ = b :: ownL bs
        rw [ownL_set q1 g2]
      · cases ρ with
        | nil => exact hρ
        | cons j ρ =>
          have hρ : (match bs[j]? with | some β => adr β ρ | none => none) = some c := hρ
          show (match (bs.set i (putA β π (.nd a as')))[j]? with | some β => adr β ρ | none => none) = some c
          rw [List.getElem?_set]
          by_cases hij : i = j
          · subst hij
            rw [if_pos rfl, if_pos (List.getElem?_eq_some_iff.mp q1).1]
            rw [q1] at hρ
            exact g3 ρ c hρ
          · rw [if_neg hij]
            exact hρ
end
end Hk
/-! Hk65: trees made, read and changed. -/
namespace Hk
open PySem PySem.Spec PyProof.Rows L2 Evl
section
variable {K : PySem.W.Frag} {μ : List Addr} {Hd H : Hp}
/-- a new cell at a free place, the trees told -/
theorem Wo.grow {μ : List Addr} {ce : List Ce} {p : Addr} {o : HO} {c : Ce} (w : Wo K μ Hd H ce) (hp : H p = none) (hc : HoAt K Hd c o) (hk : ∀ ks ds, c ≠ .lkd ks ds) (ht : ∀ P q, c ≠ .tbl P q) (hx : TrsOk K (μ ++ [p]) Hd (upd H p o) (ce ++ [c])) : Wo K (μ ++ [p]) Hd (upd H p o) (ce ++ [c]) := by
  have hl := w.len
  have cs : ∀ {i : Nat} {b : Addr} {e : Ce}, (μ ++ [p])[i]? = some b → (ce ++ [c])[i]? = some e → (μ[i]? = some b ∧ ce[i]? = some e) ∨ (i = ce.length ∧ b = p ∧ e = c) := fun {i b e} h1 h2 => by
    rcases get_append_one h1 with h1 | ⟨h1, q1⟩ <;> rcases get_append_one h2 with h2 | ⟨h2, q2⟩
    · exact .inl ⟨h1, h2⟩
    · have := (List.getElem?_eq_some_iff.mp h1).1
      omega
    · have := (List.getElem?_eq_some_iff.mp h2).1
      omega
    · exact .inr ⟨h2, q1, q2⟩
  have keep : ∀ {k : Nat} {c : Ce} {a : Addr}, ce[k]? = some c → μ[k]? = some a → c.live = true → a ≠ p := fun {k c a} h1 h2 hl => by
    obtain ⟨g1, u, g2, g3⟩ := w.at_ k c a h1 h2 hl
    exact ne_of_none g2 hp
  refine ⟨fun a u e => ?_, by rw [List.length_append, List.length_append, hl]; rfl, fun k a ks ds h1 h2 => ?_, fun k e a h1 h2 hl => ?_, fun j k a e1 e2 h1 h2 h3 h4 l1 l2 => ?_, fun k a P q h1 h2 => ?_, hx⟩
  · have h := w.ex a u e
    rw [upd_ne (ne_of_none h hp)]
    exact h
  · rcases cs h2 h1 with ⟨i1, i2⟩ | ⟨_, _, i3⟩
    · obtain ⟨q1, uq⟩ := w.lk k a ks ds i2 i1
      refine ⟨q1, fun j ks' ds' h4 h5 => ?_⟩
      rcases cs h5 h4 with ⟨j1, j2⟩ | ⟨_, _, j3⟩
      · exact uq j ks' ds' j2 j1
      · exact absurd j3.symm (hk ks' ds')
    · exact absurd i3.symm (hk ks ds)
  · rcases cs h2 h1 with ⟨i1, i2⟩ | ⟨_, rfl, rfl⟩
    · obtain ⟨g1, u, g2, g3⟩ := w.at_ k e a i2 i1 hl
      exact ⟨g1, u, by rw [upd_ne (ne_of_none g2 hp)]; exact g2, g3⟩
    · exact ⟨exs_back w.ex hp, o, upd_same, hc⟩
  · rcases cs h1 h3 with ⟨i1, i2⟩ | ⟨i1, i2, _⟩ <;> rcases cs h2 h4 with ⟨j1, j2⟩ | ⟨j1, j2, _⟩
    · exact w.inj j k a e1 e2 i1 j1 i2 j2 l1 l2
    · exact absurd j2 (keep i2 i1 l1)
    · exact absurd i2 (keep j2 j1 l2)
    · omega
  · rcases cs h2 h1 with ⟨i1, i2⟩ | ⟨_, _, i3⟩
    · exact w.tb k a P q i2 i1
    · exact absurd i3.symm (ht P q)
/-- a place in a tree is given a cell of its own -/
theorem Wo.newS {ce : List Ce} {k : Nat} {ρ : List Nat} {b : Addr} {α : Nat → AT} (w : Wo K μ Hd H ce) (T : Trs K μ Hd H ce α) (hk : k < ce.length) (hb : adr (α k) ρ = some b) : Wo K (μ ++ [b]) Hd H (ce ++ [.sub k ρ]) := by
  have hl := w.len
  have cs : ∀ {i : Nat} {c : Addr} {e : Ce}, (μ ++ [b])[i]? = some c → (ce ++ [Ce.sub k ρ])[i]? = some e → (μ[i]? = some c ∧ ce[i]? = some e) ∨ (i = ce.length ∧ c = b ∧ e = .sub k ρ) := fun {i c e} h1 h2 => by
    rcases get_append_one h1 with h1 | ⟨h1, q1⟩ <;> rcases get_append_one h2 with h2 | ⟨h2, q2⟩
    · exact .inl ⟨h1, h2⟩
    · have := (List.getElem?_eq_some_iff.mp h1).1
      omega
    · have := (List.getElem?_eq_some_iff.mp h2).1
      omega
    · exact .inr ⟨h2, q1, q2⟩
  have c2 : ∀ {i : Nat} {e : Ce}, (ce ++ [Ce.sub k ρ])[i]? = some e → (∀ π j, e ≠ .sub j π) → ce[i]? = some e := fun {i e} h hn => by
    rcases get_append_one h with h | ⟨_, h⟩
    · exact h
    · exact absurd h (hn ρ k)
  have m2 : ∀ {i : Nat} {c : Addr}, i < ce.length → (μ ++ [b])[i]? = some c → μ[i]? = some c := fun {i c} hi h => by
    rw [List.getElem?_append_left (by omega)] at h
    exact h
  refine ⟨w.ex, by rw [List.length_append, List.length_append, hl]; rfl, fun k a ks ds h1 h2 => ?_, fun k e a h1 h2 hl => ?_, fun j k a e1 e2 h1 h2 h3 h4 l1 l2 => ?_, fun k a P q h1 h2 => ?_, α, ⟨fun i t a h1 h2 => ?_, fun i t h1 => T.t2 i t (c2 h1 nofun), fun i j t u x h1 h2 => T.t3 i j t u x (c2 h1 nofun) (c2 h2 nofun), fun i t x j c h1 h2 h3 h4 h5 => ?_, fun j i π t a h1 h2 h3 h4 => ?_⟩⟩
  · rcases cs h2 h1 with ⟨i1, i2⟩ | ⟨_, _, i3⟩
    · obtain ⟨q1, uq⟩ := w.lk k a ks ds i2 i1
      refine ⟨q1, fun j ks' ds' h4 h5 => ?_⟩
      rcases cs h5 h4 with ⟨j1, j2⟩ | ⟨_, _, j3⟩
      · exact uq j ks' ds' j2 j1
      · cases j3
    · cases i3
  · rcases cs h2 h1 with ⟨i1, i2⟩ | ⟨_, _, i3⟩
    · exact w.at_ k e a i2 i1 hl
    · subst i3
      cases hl
  · rcases cs h1 h3 with ⟨i1, i2⟩ | ⟨_, _, i3⟩
    · rcases cs h2 h4 with ⟨j1, j2⟩ | ⟨_, _, j3⟩
      · exact w.inj j k a e1 e2 i1 j1 i2 j2 l1 l2
      · subst j3
        cases l2
    · subst i3
      cases l1
  · rcases cs h2 h1 with ⟨i1, i2⟩ | ⟨_, _, i3⟩
    · exact w.tb k a P q i2 i1
    · cases i3
  · have q := c2 h1 nofun
    exact T.t1 i t a q (m2 (List.getElem?_eq_some_iff.mp q).1 h2)
  · rcases cs h5 h3 with ⟨i1, i2⟩ | ⟨_, _, i3⟩
    · exact T.t4 i t x j c (c2 h1 nofun) h2 i2 h4 i1
    · subst i3
      cases h4
  · rcases cs h4 h1 with ⟨i1, i2⟩ | ⟨_, i4, i3⟩
    · exact T.t5 j i π t a i2 h2 (c2 h3 nofun) i1
    · cases i3
      rw [i4]
      exact hb
/-! ### reading -/
/-- the i-th thing of the node at j -/
def kidE (j i : Nat) (E : En) : Option (Vl × En) := match nodeT E.ce j with
  | some (k, π, s) => match (kidsT s)[i]? with
    | some (.dat d) => some (.d d, E)
    | some _ => some (.c E.ce.length, ⟨E.sl, E.ce ++ [.sub k (π ++ [i])]⟩)
    | none => none
  | none => none
/-- the node of a cell, its values -/
theorem node_at {ce : List Ce} {j k : Nat} {π : List Nat} {s : Tr} {a : Addr} (w : Wo K μ Hd H ce) (h : nodeT ce j = some (k, π, s)) (ha : μ[j]? = some a) :
    ∃ (α : Nat → AT) (t : Tr) (b : Addr) (as : List AT) (vs : List V), Trs K μ Hd H ce α ∧ ce[k]? = some (.tr t) ∧ μ[k]? = some b ∧ AtT K Hd H t (α k) (.ref b) ∧ subT t π = some s ∧ subA (α k) π = some (.nd a as) ∧ s.node = true ∧ Hd a = none ∧ VsOf K H a s vs ∧ AtL K Hd H (kidsT s) as vs := by
  obtain ⟨α, T⟩ := w.trs
  obtain ⟨t, b, q1, q2, q3, q4, q5⟩ := node_ok T w.len h ha
  obtain ⟨as, e⟩ := adr_sub q5
  obtain ⟨β, w2, e1, e2, _⟩ := AtT.sub2 q3 q4
  rw [e] at e1
  cases e1
  obtain ⟨n1, _, n2, vs, n3, n4⟩ := node_vs e2
  exact ⟨α, t, b, as, vs, T, q1, q2, q3, q4, e, n1, n2, n3, n4⟩
theorem kidE_ok {σ : L2.St} {E E' : En} {j i : Nat} {a : Addr} {r : Vl} (R : Rl K μ Hd H σ E) (ha : μ[j]? = some a) (e : kidE j i E = some (r, E')) :
    ∃ (k : Nat) (π : List Nat) (s : Tr) (vs : List V) (x : V), nodeT E.ce j = some (k, π, s) ∧ VsOf K H a s vs ∧ vs.length = (kidsT s).length ∧ vs[i]? = some x ∧ ∃ μ', Gr μ Hd μ' Hd ∧ Rl K μ' Hd H σ E' ∧ Rv K μ' Hd r x := by
  unfold kidE at e
  cases q : nodeT E.ce j with
  | none =>
    rw [q] at e
    cases e
  | some p =>
    obtain ⟨k, π, s⟩ := p
    rw [q] at e
    obtain ⟨α, t, b, as, vs, T, q1, q2, q3, q4, q5, n1, n2, n3, n4⟩ := node_at R.wo q ha
    cases q6 : (kidsT s)[i]? with
    | none =>
      simp only [q6] at e
      cases e
    | some u =>
      simp only [q6] at e
      obtain ⟨β, x, e1, e2, e3⟩ := AtL.get n4 q6
      have dat : ∀ {d : Dt}, u = .dat d → ∃ (k : Nat) (π : List Nat) (s : Tr) (vs : List V) (x : V), some (k, π, s) = some (k, π, s) ∧ True := fun _ => ⟨k, π, s, vs, x, rfl, True.intro⟩
      have nod : u.node = true → some (Vl.c E.ce.length, (⟨E.sl, E.ce ++ [.sub k (π ++ [i])]⟩ : En)) = some (r, E') → ∃ μ', Gr μ Hd μ' Hd ∧ Rl K μ' Hd H σ E' ∧ Rv K μ' Hd r x := fun hn he => by
        cases he
        obtain ⟨c, cs, rfl, rfl⟩ := node_nd hn e3
        have hadr : adr (α k) (π ++ [i]) = some c := by
          rw [subA_adr q5]
          show (match as[i]? with | some β => adr β [] | none => none) = _
          rw [e1]
          rfl
        have g : Gr μ Hd (μ ++ [c]) Hd := ⟨pre_app, Ex.refl Hd⟩
        refine ⟨μ ++ [c], g, ⟨R.wo.newS T (List.getElem?_eq_some_iff.mp q1).1 hadr, R.sl.gr g⟩, c, ?_, rfl⟩
        rw [← R.wo.len]
        simp
      refine ⟨k, π, s, vs, x, rfl, n3, (AtL.len n4).2, e2, ?_⟩
      cases u with
      | dat d =>
        cases e
        exact ⟨μ, Gr.refl μ Hd, R, e3.2⟩
      | lst ts => exact nod rfl e
      | dic ks ts => exact nod rfl e
      | ins C ns ts => exact nod rfl e
/-- xs[i], xs a list in a tree -/
def ixTF : Vl → Vl → M Vl := fun x y E => match x, see E.ce y with
  | .c j, some (.int i) => match nodeT E.ce j with
    | some (_, _, .lst ts) => match ixN ts.length i with
      | some p => kidE j p E
      | none => none
    | _ => none
  | _, _ => none
theorem om_ixT : OM K (rIx K) ixTF := fun {μ Hd H σ E x y vx vy z E'} R hx hy e Q q => by
  unfold ixTF at e
  split at e
  · rename_i j i h1
    split at e
    · rename_i k π ts h2
      split at e
      · rename_i p h3
        obtain ⟨a, ha, rfl⟩ := hx
        obtain ⟨k', π', s, vs, v, e1, e2, e3, e4, μ', g, R', r'⟩ := kidE_ok R ha e
        rw [h2] at e1
        cases e1
        have hv : atI vs i = some v := by
          unfold atI
          rw [e3]
          show ((ixN ts.length i).bind fun j => vs[j]?) = _
          rw [h3]
          exact e4
        exact .inl ⟨a, vs, i, v, rfl, see_ok R.wo hy h1, sq_of e2, hv, q μ' Hd H v g R' r'⟩
      · cases e
    · cases e
  · cases e
end
end Hk
/-! Hk66: a place of a tree changes; lists in trees: append, clear; lists of lists made. -/
namespace Hk
open PySem PySem.Spec PyProof.Rows L2 Evl
section
variable {K : PySem.W.Frag} {μ : List Addr} {Hd H : Hp}
theorem putR_node {π : List Nat} {t s' : Tr} (ht : t.node = true) (hn : s'.node = true) : (putR t π s').node = true := by
  cases π with
  | nil =>
    unfold putR
    exact hn
  | cons i π =>
    unfold putR
    cases (kidsT t)[i]? with
    | none => exact ht
    | some u =>
      cases t with
      | dat d => cases ht
      | _ => rfl
/-- the object of a node changes, what is nested in it stays -/
theorem Rl.updT {σ : L2.St} {E : En} {j k : Nat} {π : List Nat} {s s' t : Tr} {a : Addr} {o : HO} {vs vs' : List V} (R : Rl K μ Hd H σ E) (h : nodeT E.ce j = some (k, π, s)) (hk : E.ce[k]? = some (.tr t)) (ha : μ[j]? = some a) (hv : VsOf K H a s vs) (hn : s'.node = true) (ho : TrO o) (hv' : VsOf K (upd H a o) a s' vs')
    (hA : ∀ as : List AT, AtL K Hd H (kidsT s) as vs → ∃ as', AtL K Hd H (kidsT s') as' vs' ∧ ownL as' = ownL as ∧ ∀ (i : Nat) (β : AT), as[i]? = some β → β ≠ AT.no → as'[i]? = some β) :
    Rl K μ Hd (upd H a o) σ ⟨E.sl, E.ce.set k (.tr (putR t π s'))⟩ := by
  obtain ⟨α, t2, b, as, vs2, T, q1, q2, q3, q4, q5, n1, n2, n3, n4⟩ := node_at R.wo h ha
  rw [hk] at q1
  cases q1
  have evs : vs2 = vs := by
    cases s with
    | dat d => cases n1
    | lst ts =>
      have e1 : H a = some (.lst vs2) := n3
      have e2 : H a = some (.lst vs) := hv
      rw [e1] at e2
      cases e2
      rfl
    | dic ks ts =>
      obtain ⟨kvs, e1, _, rfl⟩ := n3
      obtain ⟨kvs', e2, _, rfl⟩ := hv
      rw [e1] at e2
      cases e2
      rfl
    | ins C ns ts =>
      obtain ⟨dx, fs, e1, _, rfl⟩ := n3
      obtain ⟨dx', fs', e2, _, rfl⟩ := hv
      rw [e1] at e2
      cases e2
      rfl
  subst evs
  obtain ⟨as', a1, a2, a3⟩ := hA as n4
  have nd := T.t2 k t hk
  have hin : a ∈ own (α k) := by
    obtain ⟨γ, w2, e1, e2, e3⟩ := AtT.sub2 q3 q4
    rw [q5] at e1
    cases e1
    exact e3 a List.mem_cons_self
  have hna : a ∉ ownL as := by
    have : ∀ {π : List Nat} {β : AT}, (own β).Nodup → subA β π = some (.nd a as) → (own (.nd a as)).Nodup := by
      intro π
      induction π with
      | nil =>
        intro β h1 h2
        cases β with
        | no => cases h2
        | nd c cs =>
          cases h2
          exact h1
      | cons i π ih =>
        intro β h1 h2
        cases β with
        | no => cases h2
        | nd c cs =>
          have h2 : (match cs[i]? with | some β => subA β π | none => none) = some (.nd a as) := h2
          cases q : cs[i]? with
          | none =>
            rw [q] at h2
            cases h2
          | some γ =>
            rw [q] at h2
            refine ih (β := γ) ?_ h2
            have h1 : (c :: ownL cs).Nodup := h1
            have : ∀ {cs : List AT} {i : Nat}, (ownL cs).Nodup → cs[i]? = some γ → (own γ).Nodup := by
              intro cs
              induction cs with
              | nil => intro i _ h; cases h
              | cons δ cs ih =>
                intro i h hb
                have h : (own δ ++ ownL cs).Nodup := h
                cases i with
                | zero =>
                  cases hb
                  exact (List.nodup_append.mp h).1
                | succ i => exact ih (List.nodup_append.mp h).2.1 hb
            exact this (List.nodup_cons.mp h1).2 q
    exact (List.nodup_cons.mp (show (a :: ownL as).Nodup from this nd q5)).1
  have hat : AtT K Hd (upd H a o) s' (.nd a as') (.ref a) := vs_node n2 hv' (AtL.keep (fun _ _ h => h) (fun x hx => by
    rw [a2] at hx
    exact ⟨upd_ne (fun z => hna (z ▸ hx)), (AtL.at_ n4 x hx).1⟩) a1)
  have hadr : ∀ ρ c, adr (.nd a as) ρ = some c → adr (.nd a as') ρ = some c := fun ρ c hρ => by
    cases ρ with
    | nil => exact hρ
    | cons i ρ =>
      have hρ : (match as[i]? with | some β => adr β ρ | none => none) = some c := hρ
      show (match as'[i]? with | some β => adr β ρ | none => none) = some c
      cases q : as[i]? with
      | none =>
        rw [q] at hρ
        cases hρ
      | some β =>
        rw [q] at hρ
        rw [a3 i β q (fun z => by
          subst z
          cases ρ <;> cases hρ)]
        exact hρ
  obtain ⟨p1, p2, p3⟩ := AtT.put hat (by show a :: ownL as' = a :: ownL as; rw [a2]) hadr q3 q4 q5 nd
  have hlk := (List.getElem?_eq_some_iff.mp hk).1
  have other : ∀ {i : Nat} {c : Ce}, (E.ce.set k (.tr (putR t π s')))[i]? = some c → (i = k ∧ c = .tr (putR t π s')) ∨ (i ≠ k ∧ E.ce[i]? = some c) := fun {i c} h => by
    rw [List.getElem?_set] at h
    by_cases hi : k = i
    · subst hi
      rw [if_pos rfl, if_pos hlk] at h
      exact .inl ⟨rfl, (Option.some.inj h).symm⟩
    · rw [if_neg hi] at h
      exact .inr ⟨fun z => hi z.symm, h⟩
  have gh := (R.wo.at_ k _ b hk q2 rfl)
  have away : ∀ {i : Nat} {c : Ce} {x : Addr}, i ≠ k → E.ce[i]? = some c → μ[i]? = some x → c.live = true → x ≠ a := fun {i c x} hi h1 h2 h3 z => by
    subst z
    exact hi (T.t4 k t x i c hk hin h1 h3 h2)
  have keepO : ∀ x, x ∈ own (α k) ∨ x ≠ a → True := fun _ _ => True.intro
  refine ⟨⟨fun c u e => ?_, by show μ.length = (E.ce.set k _).length; rw [List.length_set]; exact R.wo.len, fun i c ks ds h1 h2 => ?_, fun i c x h1 h2 h3 => ?_, fun i l x c e h1 h2 h3 h4 l1 l2 => ?_, fun i x P q h1 h2 => ?_, fun i => if i = k then putA (α k) π (.nd a as') else α i, ⟨fun i u x h1 h2 => ?_, fun i u h1 => ?_, fun i l u w x h1 h2 h3 h4 => ?_, fun i u x l c h1 h2 h3 h4 h5 => ?_, fun i l ρ u x h1 h2 h3 h4 => ?_⟩⟩, R.sl⟩
  · have nc : c ≠ a := fun z => by
      subst z
      rw [n2] at e
      cases e
    rw [upd_ne nc]
    exact R.wo.ex c u e
  · rcases other h1 with ⟨_, z⟩ | ⟨_, h1⟩
    · cases z
    · obtain ⟨w1, w2⟩ := R.wo.lk i c ks ds h1 h2
      refine ⟨w1, fun l ks' ds' h4 h5 => ?_⟩
      rcases other h4 with ⟨_, z⟩ | ⟨_, h4⟩
      · cases z
      · exact w2 l ks' ds' h4 h5
  · rcases other h1 with ⟨rfl, rfl⟩ | ⟨hi, h1⟩
    · rw [q2] at h2
      cases h2
      obtain ⟨g1, o0, g2, g3⟩ := gh
      have nt : (putR t π s').node = true := putR_node g3.1 hn
      by_cases z : b = a
      · subst z
        exact ⟨g1, o, upd_same, nt, ho⟩
      · exact ⟨g1, o0, by rw [upd_ne z]; exact g2, nt, g3.2⟩
    · obtain ⟨w1, u, w2, w3⟩ := R.wo.at_ i c x h1 h2 h3
      exact ⟨w1, u, by rw [upd_ne (away hi h1 h2 h3)]; exact w2, w3⟩
  · have lv : ∀ {i : Nat} {c : Ce}, (E.ce.set k (.tr (putR t π s')))[i]? = some c → c.live = true → ∃ c', E.ce[i]? = some c' ∧ c'.live = true := fun {i c} h hl => by
      rcases other h with ⟨rfl, _⟩ | ⟨_, h⟩
      · exact ⟨_, hk, rfl⟩
      · exact ⟨c, h, hl⟩
    obtain ⟨c1, d1, d2⟩ := lv h3 l1
    obtain ⟨c2, d3, d4⟩ := lv h4 l2
    exact R.wo.inj i l x c1 c2 h1 h2 d1 d3 d2 d4
  · rcases other h1 with ⟨_, z⟩ | ⟨_, h1⟩
    · cases z
    · exact R.wo.tb i x P q h1 h2
  · rcases other h1 with ⟨rfl, e⟩ | ⟨hi, h1⟩
    · cases e
      rw [q2] at h2
      cases h2
      show AtT K Hd _ _ (if i = i then _ else _) _
      rw [if_pos rfl]
      exact p1
    · show AtT K Hd _ _ (if i = k then _ else _) _
      rw [if_neg hi]
      refine AtT.keep (fun _ _ h => h) (fun y hy => ⟨upd_ne fun z => ?_, (AtT.at_ (T.t1 i u x h1 h2) y hy).1⟩) (T.t1 i u x h1 h2)
      subst z
      exact hi (T.t3 i k u t y h1 hk hy hin)
  · rcases other h1 with ⟨rfl, _⟩ | ⟨hi, h1⟩
    · show (own (if i = i then _ else _)).Nodup
      rw [if_pos rfl, p2]
      exact nd
    · show (own (if i = k then _ else _)).Nodup
      rw [if_neg hi]
      exact T.t2 i u h1
  · have ow : ∀ {i : Nat} {u : Tr}, (E.ce.set k (.tr (putR t π s')))[i]? = some (.tr u) → x ∈ own (if i = k then putA (α k) π (.nd a as') else α i) → x ∈ own (α i) ∧ ∃ u', E.ce[i]? = some (.tr u') := fun {i u} h hx => by
      rcases other h with ⟨rfl, _⟩ | ⟨hi, h⟩
      · rw [if_pos rfl, p2] at hx
        exact ⟨hx, t, hk⟩
      · rw [if_neg hi] at hx
        exact ⟨hx, u, h⟩
    obtain ⟨x1, u1, y1⟩ := ow h1 h3
    obtain ⟨x2, u2, y2⟩ := ow h2 h4
    exact T.t3 i l u1 u2 x y1 y2 x1 x2
  · have ow : x ∈ own (α i) ∧ ∃ u', E.ce[i]? = some (.tr u') := by
      have h2 : x ∈ own (if i = k then putA (α k) π (.nd a as') else α i) := h2
      rcases other h1 with ⟨rfl, _⟩ | ⟨hi, h1⟩
      · rw [if_pos rfl, p2] at h2
        exact ⟨h2, t, hk⟩
      · rw [if_neg hi] at h2
        exact ⟨h2, u, h1⟩
    obtain ⟨x1, u1, y1⟩ := ow
    rcases other h3 with ⟨rfl, _⟩ | ⟨hl, h3⟩
    · exact T.t4 i u1 x l _ y1 x1 hk rfl h5
    · exact T.t4 i u1 x l c y1 x1 h3 h4 h5
  · rcases other h1 with ⟨_, z⟩ | ⟨_, h1⟩
    · cases z
    · show adr (if l = k then _ else _) ρ = some x
      rcases other h3 with ⟨hl, _⟩ | ⟨hl, h3⟩
      · rw [if_pos hl]
        exact p3 ρ x (T.t5 i k ρ t x (by rw [← hl]; exact h1) (by rw [← hl]; exact h2) hk h4)
      · rw [if_neg hl]
        exact T.t5 i l ρ u x h1 h2 h3 h4
/-! ### append, clear -/
theorem atl_app : ∀ {ts : List Tr} {as : List AT} {vs : List V} {d : Dt} {v : V}, AtL K Hd H ts as vs → Rp K Hd d v → AtL K Hd H (ts ++ [.dat d]) (as ++ [.no]) (vs ++ [v])
  | [], as, vs, d, v, ⟨e, e2⟩, h => by
    subst e e2
    exact ⟨.no, [], v, [], rfl, rfl, ⟨rfl, h⟩, rfl, rfl⟩
  | t :: ts, as, vs, d, v, ⟨α, ar, w, vr, e, e2, h1, h2⟩, h => by
    subst e e2
    exact ⟨α, ar ++ [.no], w, vr ++ [v], rfl, rfl, h1, atl_app (ts := ts) h2 h⟩
theorem ownL_app : ∀ {as : List AT}, ownL (as ++ [.no]) = ownL as
  | [] => rfl
  | α :: as => by
    show own α ++ ownL (as ++ [.no]) = own α ++ ownL as
    rw [ownL_app (as := as)]
/-- xs.append(x), xs a list in a tree -/
def appTF : Vl → List Vl → M Vl := fun x xs => match xs with
  | [r] => bindM (fzM r) fun d => fun E => match x with
    | .c j => match nodeT E.ce j with
      | some (k, π, .lst ts) => if ts.length < 100000 then match E.ce[k]? with
        | some (.tr t) => some (.d .non, ⟨E.sl, E.ce.set k (.tr (putR t π (.lst (ts ++ [.dat d]))))⟩)
        | _ => none
        else none
      | _ => none
    | _ => none
  | _ => failM
theorem mm_appT : MM K "list" rAppend appTF := fun {μ Hd H σ E x vx xs vs z E'} R hx hxs e Q q => by
  unfold appTF at e
  split at e
  · rename_i r
    obtain ⟨d, E1, e1, e2⟩ := bindM_some e
    obtain ⟨v, rfl, hv⟩ := hxs.one
    obtain ⟨Hd1, g1, R1, r1⟩ := fzM_ok R hv e1
    split at e2
    · rename_i j
      split at e2
      · rename_i k π ts h1
        split at e2
        · rename_i hz
          split at e2
          · rename_i t hk
            cases e2
            obtain ⟨a, ha, rfl⟩ := Rv.gr g1 hx
            obtain ⟨α, t2, b, as, us, T, q1, q2, q3, q4, q5, n1, n2, n3, n4⟩ := node_at R1.wo h1 ha
            have hl := (AtL.len n4).2
            have R2 := R1.updT (s' := Tr.lst (ts ++ [Tr.dat d])) (o := .lst (us ++ [v])) (vs' := us ++ [v]) h1 hk ha n3 rfl (.inl ⟨_, rfl⟩) upd_same fun as2 h2 => ⟨as2 ++ [AT.no], (atl_app (ts := ts) h2 r1 : AtL K Hd1 H (ts ++ [Tr.dat d]) (as2 ++ [AT.no]) (us ++ [v])), ownL_app, fun i β hi _ => by
              rw [List.getElem?_append_left (List.getElem?_eq_some_iff.mp hi).1]
              exact hi⟩
            exact ⟨a, us, v, rfl, rfl, n3, by rw [hl]; exact sz_lt hz, q _ _ _ _ g1 R2 rfl⟩
          · cases e2
        · cases e2
      · cases e2
    · cases e2
  · cases e
theorem leaves_own {Hd H : Hp} : ∀ {ts : List Tr} {as : List AT} {vs : List V} {ds : List Dt}, AtL K Hd H ts as vs → leaves ts = some ds → ownL as = [] ∧ ∀ (i : Nat) (β : AT), as[i]? = some β → β = AT.no
  | [], as, vs, ds, ⟨e, _⟩, h => by
    subst e
    exact ⟨rfl, fun i β hi => by cases hi⟩
  | .dat d :: ts, as, vs, ds, ⟨α, ar, v, vr, e, e2, ⟨e3, h1⟩, h2⟩, h => by
    obtain ⟨es, q1, q2⟩ := Option.map_eq_some_iff.mp h
    subst e e3
    obtain ⟨l1, l2⟩ := leaves_own h2 q1
    refine ⟨l1, fun i β hi => ?_⟩
    cases i with
    | zero =>
      cases hi
      rfl
    | succ i => exact l2 i β hi
  | .lst _ :: ts, as, vs, ds, _, h => by cases h
  | .dic _ _ :: ts, as, vs, ds, _, h => by cases h
  | .ins _ _ _ :: ts, as, vs, ds, _, h => by cases h
/-- xs.clear(), xs a list of data in a tree -/
def clrTF : Vl → List Vl → M Vl := fun x xs => match xs with
  | [] => fun E => match x with
    | .c j => match nodeT E.ce j with
      | some (k, π, .lst ts) => if (leaves ts).isSome = true then match E.ce[k]? with
        | some (.tr t) => some (.d .non, ⟨E.sl, E.ce.set k (.tr (putR t π (.lst [])))⟩)
        | _ => none
        else none
      | _ => none
    | _ => none
  | _ => failM
theorem mm_clrT : MM K "list" rClear clrTF := fun {μ Hd H σ E x vx xs vs z E'} R hx hxs e Q q => by
  unfold clrTF at e
  split at e
  · split at e
    · rename_i j
      split at e
      · rename_i k π ts h1
        split at e
        · rename_i hz
          split at e
          · rename_i t hk
            cases e
            obtain ⟨ds, hd⟩ := Option.isSome_iff_exists.mp hz
            obtain ⟨a, ha, rfl⟩ := hx
            obtain ⟨α, t2, b, as, us, T, q1, q2, q3, q4, q5, n1, n2, n3, n4⟩ := node_at R.wo h1 ha
            have R2 := R.updT (s' := .lst []) (o := .lst []) (vs' := []) h1 hk ha n3 rfl (.inl ⟨_, rfl⟩) upd_same fun as2 h2 => ⟨[], ⟨rfl, rfl⟩, (leaves_own h2 hd).1.symm, fun i β hi hn => absurd ((leaves_own h2 hd).2 i β hi) hn⟩
            have ev : vs = [] := by
              cases hxs
              rfl
            exact ⟨a, us, rfl, ev, n3, q _ _ _ _ (Gr.refl μ Hd) R2 rfl⟩
          · cases e
        · cases e
      · cases e
    · cases e
  · cases e
end
end Hk
/-! Hk67: cells taken into a tree: a list display whose items may change. -/
namespace Hk
open PySem PySem.Spec PyProof.Rows L2 Evl
section
variable {K : PySem.W.Frag} {μ : List Addr} {Hd H : Hp}
/-- a store, and addresses that nothing in it owns -/
structure WoL (K : PySem.W.Frag) (μ : List Addr) (Hd H : Hp) (ce : List Ce) (L : List Addr) : Prop where
  wo : Wo K μ Hd H ce
  rs : ∃ α, Trs K μ Hd H ce α ∧ ∀ x ∈ L, (∀ (k : Nat) (t : Tr), ce[k]? = some (.tr t) → x ∉ own (α k)) ∧ ∀ (j : Nat) (c : Ce), ce[j]? = some c → c.live = true → μ[j]? ≠ some x
theorem Trs.kill {ce ce' : List Ce} {α : Nat → AT} (T : Trs K μ Hd H ce α) (h : ∀ (k : Nat) (e : Ce), ce'[k]? = some e → e ≠ .dead → ce[k]? = some e) : Trs K μ Hd H ce' α :=
  ⟨fun k t a h1 h2 => T.t1 k t a (h k _ h1 nofun) h2, fun k t h1 => T.t2 k t (h k _ h1 nofun), fun j k t u x h1 h2 => T.t3 j k t u x (h j _ h1 nofun) (h k _ h2 nofun), fun k t x j c h1 h2 h3 h4 h5 => T.t4 k t x j c (h k _ h1 nofun) h2 (h j c h3 (by intro z; subst z; cases h4)) h4 h5,
    fun j k π t a h1 h2 h3 h4 => T.t5 j k π t a (h j _ h1 nofun) h2 (h k _ h3 nofun) h4⟩
theorem Wo.kill {ce ce' : List Ce} (w : Wo K μ Hd H ce) (hl : ce'.length = ce.length) (h : ∀ (k : Nat) (e : Ce), ce'[k]? = some e → e ≠ .dead → ce[k]? = some e) : Wo K μ Hd H ce' :=
  ⟨w.ex, by rw [hl]; exact w.len, fun k a ks ds h1 h2 => ⟨(w.lk k a ks ds (h k _ h1 nofun) h2).1, fun j ks' ds' h3 h4 => (w.lk k a ks ds (h k _ h1 nofun) h2).2 j ks' ds' (h j _ h3 nofun) h4⟩, fun k c a h1 h2 h3 => w.at_ k c a (h k c h1 (by intro z; subst z; cases h3)) h2 h3,
    fun j k a c e h1 h2 h3 h4 l1 l2 => w.inj j k a c e h1 h2 (h j c h3 (by intro z; subst z; cases l1)) (h k e h4 (by intro z; subst z; cases l2)) l1 l2, fun k a P q h1 h2 => w.tb k a P q (h k _ h1 nofun) h2, w.trs.kill w.len h⟩
theorem set_dead {ce : List Ce} {j : Nat} : ∀ (k : Nat) (e : Ce), (ce.set j .dead)[k]? = some e → e ≠ .dead → ce[k]? = some e := fun k e h hd => by
  rw [List.getElem?_set] at h
  split at h
  · split at h
    · exact absurd (Option.some.inj h).symm hd
    · cases h
  · exact h
def datT (ds : List Dt) : List Tr := ds.map .dat
theorem atl_dat : ∀ {ds : List Dt} {vs : List V}, RpA K Hd ds vs → AtL K Hd H (datT ds) (ds.map fun _ => .no) vs
  | [], vs, h => ⟨rfl, h⟩
  | d :: ds, vs, ⟨x, r, e, h1, h2⟩ => by
    subst e
    exact ⟨.no, _, x, r, rfl, rfl, ⟨rfl, h1⟩, atl_dat h2⟩
theorem ownL_no : ∀ (ds : List Dt), ownL (ds.map fun _ => .no) = []
  | [] => rfl
  | d :: ds => ownL_no ds
/-- a value as part of a tree; its cell is no cell of its own any more -/
def takeV (r : Vl) (ce : List Ce) : Option (Tr × List Ce) := match r with
  | .d d => some (.dat d, ce)
  | .c j => match ce[j]? with
    | some (.lst xs) => some (.lst (datT xs), ce.set j .dead)
    | some (.dic ks ds) => some (.dic ks (datT ds), ce.set j .dead)
    | some (.ins C ns ds) => some (.ins C ns (datT ds), ce.set j .dead)
    | some (.tr t) => some (t, ce.set j .dead)
    | _ => none
  | _ => none
def takeL : List Vl → List Ce → Option (List Tr × List Ce)
  | [], ce => some ([], ce)
  | r :: rs, ce => match takeV r ce with
    | some (t, ce1) => (takeL rs ce1).map fun p => (t :: p.1, p.2)
    | none => none
theorem takeV_ok {ce ce' : List Ce} {L : List Addr} {r : Vl} {v : V} {t : Tr} (w : WoL K μ Hd H ce L) (hv : Rv K μ Hd r v) (e : takeV r ce = some (t, ce')) :
    ∃ β, AtT K Hd H t β v ∧ (own β).Nodup ∧ (∀ x ∈ own β, x ∉ L) ∧ WoL K μ Hd H ce' (L ++ own β) ∧ ce'.length = ce.length := by
  unfold takeV at e
  split at e
  · rename_i d
    cases e
    exact ⟨.no, ⟨rfl, hv⟩, List.nodup_nil, (fun x h => by cases h), by rw [show own .no = [] from rfl, List.append_nil]; exact w, rfl⟩
  · rename_i j
    obtain ⟨a, ha, rfl⟩ := hv
    obtain ⟨α, T, hL⟩ := w.rs
    have fin : ∀ {β : AT} {c : Ce}, ce[j]? = some c → c.live = true → ce' = ce.set j .dead → AtT K Hd H t β (.ref a) → (own β).Nodup → (∀ x ∈ own β, x ∉ L) → (∀ x ∈ own β, (∀ (k : Nat) (u : Tr), k ≠ j → ce[k]? = some (.tr u) → x ∉ own (α k)) ∧ ∀ (i : Nat) (e : Ce), i ≠ j → ce[i]? = some e → e.live = true → μ[i]? ≠ some x) →
        ∃ β, AtT K Hd H t β (.ref a) ∧ (own β).Nodup ∧ (∀ x ∈ own β, x ∉ L) ∧ WoL K μ Hd H ce' (L ++ own β) ∧ ce'.length = ce.length := fun {β c} hc hl he h1 h2 h3 h4 => by
      subst he
      have nj : ∀ {k : Nat} {e : Ce}, (ce.set j .dead)[k]? = some e → e ≠ .dead → k ≠ j := fun {k e} h hd z => by
        subst z
        rw [List.getElem?_set, if_pos rfl, if_pos (List.getElem?_eq_some_iff.mp hc).1] at h
        exact hd (Option.some.inj h).symm
      refine ⟨β, h1, h2, h3, ⟨w.wo.kill List.length_set set_dead, α, T.kill set_dead, fun x hx => ?_⟩, List.length_set⟩
      rcases List.mem_append.mp hx with hx | hx
      · exact ⟨fun k u hk => (hL x hx).1 k u (set_dead k _ hk nofun), fun i e hi hl => (hL x hx).2 i e (set_dead i e hi (by intro z; subst z; cases hl)) hl⟩
      · exact ⟨fun k u hk => (h4 x hx).1 k u (nj hk nofun) (set_dead k _ hk nofun), fun i e hi hl => (h4 x hx).2 i e (nj hi (by intro z; subst z; cases hl)) (set_dead i e hi (by intro z; subst z; cases hl)) hl⟩
    have flat1 : ∀ {c : Ce} {as : List AT}, ce[j]? = some c → c.live = true → c.tree = false → ce' = ce.set j .dead → AtT K Hd H t (.nd a as) (.ref a) → ownL as = [] →
        ∃ β, AtT K Hd H t β (.ref a) ∧ (own β).Nodup ∧ (∀ x ∈ own β, x ∉ L) ∧ WoL K μ Hd H ce' (L ++ own β) ∧ ce'.length = ce.length := fun {c as} hc hl ht he h1 h2 => by
      have ho : own (.nd a as) = [a] := by
        show a :: ownL as = [a]
        rw [h2]
      have one : ∀ x ∈ own (.nd a as), x = a := fun x hx => by
        rw [ho] at hx
        exact List.mem_singleton.mp hx
      refine fin hc hl he h1 (by rw [ho]; exact List.nodup_cons.mpr ⟨List.not_mem_nil, List.nodup_nil⟩) (fun x hx hl2 => (hL x hl2).2 j c hc hl (by rw [one x hx]; exact ha)) fun x hx => ?_
      rw [one x hx]
      refine ⟨fun k u hk hu hx => hk (T.t4 k u a j c hu hx hc hl ha).symm, fun i e hi he hl2 hm => hi (w.wo.inj i j a e c hm ha he hc hl2 hl)⟩
    split at e
    · rename_i xs hc
      cases e
      obtain ⟨g1, o, g2, vs, rfl, g3⟩ := w.wo.at_ j _ a hc ha rfl
      exact flat1 hc rfl rfl rfl ⟨a, _, vs, rfl, rfl, g1, g2, atl_dat g3⟩ (ownL_no xs)
    · rename_i ks ds hc
      cases e
      obtain ⟨g1, o, g2, kvs, rfl, g4, g3⟩ := w.wo.at_ j _ a hc ha rfl
      exact flat1 hc rfl rfl rfl ⟨a, _, kvs, rfl, rfl, g1, g2, g4, atl_dat g3⟩ (ownL_no ds)
    · rename_i C ns ds hc
      cases e
      obtain ⟨g1, o, g2, dx, fs, rfl, g4, g3⟩ := w.wo.at_ j _ a hc ha rfl
      exact flat1 hc rfl rfl rfl ⟨a, _, dx, fs, rfl, rfl, g1, g2, g4, atl_dat g3⟩ (ownL_no ds)
    · rename_i u hc
      cases e
      refine fin hc rfl rfl (T.t1 j _ a hc ha) (T.t2 j _ hc) (fun x hx hl => (hL x hl).1 j _ hc hx) fun x hx => ⟨fun k u hk hu hx2 => hk (T.t3 k j u _ x hu hc hx2 hx), fun i e hi he hl hm => hi (T.t4 j _ x i e hc hx he hl hm)⟩
    · cases e
  · cases e
theorem takeL_ok : ∀ {rs : List Vl} {vs : List V} {ce ce' : List Ce} {L : List Addr} {ts : List Tr}, WoL K μ Hd H ce L → RvA K μ Hd rs vs → takeL rs ce = some (ts, ce') →
    ∃ as, AtL K Hd H ts as vs ∧ (ownL as).Nodup ∧ (∀ x ∈ ownL as, x ∉ L) ∧ WoL K μ Hd H ce' (L ++ ownL as) ∧ ce'.length = ce.length
  | [], vs, ce, ce', L, ts, w, h, e => by
    cases h
    cases e
    exact ⟨[], ⟨rfl, rfl⟩, List.nodup_nil, (fun x h => by cases h), by rw [show ownL [] = [] from rfl, List.append_nil]; exact w, rfl⟩
  | r :: rs, vs, ce, ce', L, ts, w, h, e => by
    cases h with
    | cons h1 h2 =>
      unfold takeL at e
      split at e
      · rename_i t ce1 e1
        obtain ⟨p, e2, e3⟩ := Option.map_eq_some_iff.mp e
        obtain ⟨us, ce2⟩ := p
        cases e3
        obtain ⟨β, b1, b2, b3, b4, b5⟩ := takeV_ok w h1 e1
        obtain ⟨as, a1, a2, a3, a4, a5⟩ := takeL_ok b4 h2 e2
        refine ⟨β :: as, ⟨β, as, _, _, rfl, rfl, b1, a1⟩, List.nodup_append.mpr ⟨b2, a2, fun x hx y hy z => ?_⟩, fun x hx => ?_, ?_, a5.trans b5⟩
        · subst z
          exact a3 x hy (List.mem_append_right _ hx)
        · rcases List.mem_append.mp (show x ∈ own β ++ ownL as from hx) with hx | hx
          · exact b3 x hx
          · exact fun z => a3 x hx (List.mem_append_left _ z)
        · show WoL K μ Hd H _ (L ++ (own β ++ ownL as))
          rw [← List.append_assoc]
          exact a4
      · cases e
/-- a new tree -/
theorem WoL.grow {ce : List Ce} {p : Addr} {o : HO} {s : Tr} {as : List AT} {vs : List V} (w : WoL K μ Hd H ce (ownL as)) (hp : H p = none) (hn : s.node = true) (ho : TrO o) (hv : VsOf K (upd H p o) p s vs) (hA : AtL K Hd H (kidsT s) as vs) (hN : (ownL as).Nodup) : Wo K (μ ++ [p]) Hd (upd H p o) (ce ++ [.tr s]) := by
  obtain ⟨α, T, hL⟩ := w.rs
  have len := w.wo.len
  have hdp := exs_back w.wo.ex hp
  have pn : p ∉ ownL as := fun z => by
    obtain ⟨_, o2, h2, _⟩ := AtL.at_ hA p z
    rw [hp] at h2
    cases h2
  have pa : ∀ {k : Nat} {t : Tr}, ce[k]? = some (.tr t) → p ∉ own (α k) := fun {k t} h z => by
    have hk := (List.getElem?_eq_some_iff.mp h).1
    have hm : μ[k]? = some (μ[k]'(by omega)) := List.getElem?_eq_getElem (by omega)
    obtain ⟨_, o2, h2, _⟩ := AtT.at_ (T.t1 k t _ h hm) p z
    rw [hp] at h2
    cases h2
  have ck : ∀ {i : Nat} {e : Ce}, (ce ++ [Ce.tr s])[i]? = some e → (ce[i]? = some e ∧ i < ce.length ∧ ∀ b, (μ ++ [p])[i]? = some b → μ[i]? = some b) ∨ (i = ce.length ∧ e = .tr s ∧ ∀ b, (μ ++ [p])[i]? = some b → b = p) := fun {i e} h => by
    by_cases hi : i < ce.length
    · refine .inl ⟨by rw [List.getElem?_append_left hi] at h; exact h, hi, fun b hb => ?_⟩
      rw [List.getElem?_append_left (by omega)] at hb
      exact hb
    · rw [List.getElem?_append_right (by omega)] at h
      cases q : i - ce.length with
      | succ n =>
        rw [q] at h
        cases h
      | zero =>
        rw [q] at h
        cases h
        refine .inr ⟨by omega, rfl, fun b hb => ?_⟩
        rw [List.getElem?_append_right (by omega), len, q] at hb
        cases hb
        rfl
  have ao : ∀ {i : Nat}, i < ce.length → (if i = ce.length then AT.nd p as else α i) = α i := fun {i} h => if_neg (by omega)
  refine w.wo.grow hp ⟨hn, ho⟩ nofun nofun ⟨fun i => if i = ce.length then .nd p as else α i, ⟨fun i u x h1 h2 => ?_, fun i u h1 => ?_, fun i l u v x h1 h2 h3 h4 => ?_, fun i u x l c h1 h2 h3 h4 h5 => ?_, fun i l ρ u x h1 h2 h3 h4 => ?_⟩⟩
  · rcases ck h1 with ⟨q1, q2, q3⟩ | ⟨q1, q2, q3⟩
    · show AtT K Hd _ u (if i = ce.length then _ else _) _
      rw [ao q2]
      have h := T.t1 i u x q1 (q3 x h2)
      exact AtT.keep (fun _ _ h => h) (fun y hy => ⟨upd_ne fun z => pa q1 (z ▸ hy), (AtT.at_ h y hy).1⟩) h
    · cases q2
      rw [q3 x h2]
      show AtT K Hd _ s (if i = ce.length then _ else _) _
      rw [if_pos q1]
      exact vs_node hdp hv (AtL.keep (fun _ _ h => h) (fun y hy => ⟨upd_ne fun z => pn (z ▸ hy), (AtL.at_ hA y hy).1⟩) hA)
  · rcases ck h1 with ⟨q1, q2, q3⟩ | ⟨q1, q2, q3⟩
    · show (own (if i = ce.length then _ else _)).Nodup
      rw [ao q2]
      exact T.t2 i u q1
    · show (own (if i = ce.length then _ else _)).Nodup
      rw [if_pos q1]
      exact List.nodup_cons.mpr ⟨pn, hN⟩
  · have h3 : x ∈ own (if i = ce.length then AT.nd p as else α i) := h3
    have h4 : x ∈ own (if l = ce.length then AT.nd p as else α l) := h4
    rcases ck h1 with ⟨q1, q2, q3⟩ | ⟨q1, q2, q3⟩ <;> rcases ck h2 with ⟨r1, r2, r3⟩ | ⟨r1, r2, r3⟩
    · rw [ao q2] at h3
      rw [ao r2] at h4
      exact T.t3 i l u v x q1 r1 h3 h4
    · rw [ao q2] at h3
      rw [if_pos r1] at h4
      rcases List.mem_cons.mp (show x ∈ p :: ownL as from h4) with z | h4
      · rw [z] at h3
        exact absurd h3 (pa q1)
      · exact absurd h3 ((hL x h4).1 i u q1)
    · rw [if_pos q1] at h3
      rw [ao r2] at h4
      rcases List.mem_cons.mp (show x ∈ p :: ownL as from h3) with z | h3
      · rw [z] at h4
        exact absurd h4 (pa r1)
      · exact absurd h4 ((hL x h3).1 l v r1)
    · omega
  · have h2 : x ∈ own (if i = ce.length then AT.nd p as else α i) := h2
    rcases ck h1 with ⟨q1, q2, q3⟩ | ⟨q1, q2, q3⟩ <;> rcases ck h3 with ⟨r1, r2, r3⟩ | ⟨r1, r2, r3⟩
    · rw [ao q2] at h2
      exact T.t4 i u x l c q1 h2 r1 h4 (r3 x h5)
    · rw [ao q2] at h2
      rw [r3 x h5] at h2
      exact absurd h2 (pa q1)
    · rw [if_pos q1] at h2
      rcases List.mem_cons.mp (show x ∈ p :: ownL as from h2) with z | h2
      · obtain ⟨_, o2, w2, _⟩ := w.wo.at_ l c x r1 (r3 x h5) h4
        rw [z, hp] at w2
        cases w2
      · exact absurd (r3 x h5) ((hL x h2).2 l c r1 h4)
    · omega
  · rcases ck h1 with ⟨q1, q2, q3⟩ | ⟨q1, q2, q3⟩
    · rcases ck h3 with ⟨r1, r2, r3⟩ | ⟨r1, r2, r3⟩
      · show adr (if l = ce.length then _ else _) ρ = _
        rw [ao r2]
        exact T.t5 i l ρ u x q1 h2 r1 (q3 x h4)
      · omega
    · cases q2
/-- [..], the items may be cells -/
def lstTM (m : M (List Vl)) : M Vl := bindM m fun rs => if rs.length ≤ 100000 then fun E => match takeL rs E.ce with
  | some (ts, ce) => some (.c ce.length, ⟨E.sl, ce ++ [.tr (.lst ts)]⟩)
  | none => none
  else failM
section
variable {X : Cx} {es : List Expr} {tes : TA} {mes : M (List Vl)} {pos : Pos}
theorem xlstT (h : Ax X es tes mes) : Ex_ X (.List es pos) (tLst tes) (lstTM mes) := ⟨pe_lst h.pa, fun {μ Hd H σ E r E'} R e Q q => by
  obtain ⟨rs, E1, e1, e⟩ := bindM_some e
  split at e
  · rename_i hz
    dsimp only at e
    split at e
    · rename_i ts ce e2
      cases e
      refine h.am R e1 _ fun μ1 Hd1 H1 vs g1 R1 r1 => ?_
      refine ⟨by rw [r1.len]; exact sz_of hz, fun p hp => ?_⟩
      obtain ⟨α, T⟩ := R1.wo.trs
      have w0 : WoL X.K μ1 Hd1 H1 E1.ce [] := ⟨R1.wo, α, T, (fun x h => by cases h)⟩
      obtain ⟨as, a1, a2, _, a4, a5⟩ := takeL_ok w0 r1 e2
      have w1 := WoL.grow (s := .lst ts) (o := .lst vs) a4 hp rfl (.inl ⟨_, rfl⟩) (upd_same : upd H1 p (.lst vs) p = some (.lst vs)) a1 a2
      have g2 : Gr μ1 Hd1 (μ1 ++ [p]) Hd1 := ⟨pre_app, Ex.refl Hd1⟩
      exact q _ _ _ _ (g1.trans g2) ⟨w1, R1.sl.gr g2⟩ ⟨p, by rw [a5, ← R1.wo.len]; simp, rfl⟩
    · cases e
  · cases e⟩
theorem xixT {a b : Expr} {ta tb : TE} {ma mb : M Vl} (ha : Ex_ X a ta ma) (hb : Ex_ X b tb mb) (hs : PlainIx b := by intro _ _; rfl) : Ex_ X (.Subscript a b pos) (tOp (rIx X.K) ta tb) (bindM ma fun x => bindM mb (ixTF x)) := ⟨pe_ix ix_seq ha.pe hb.pe hs, em_op om_ixT ha.em hb.em⟩
end
end
end Hk
/-! Hk68: a node of a tree is exchanged: things taken in, things dropped. -/
namespace Hk
open PySem PySem.Spec PyProof.Rows L2 Evl
section
variable {K : PySem.W.Frag} {μ : List Addr} {Hd H H' : Hp}
end
end Hk
/-! Hk69: reading objects and dicts in trees: fields, items, in, own methods. -/
namespace Hk
open PySem PySem.Spec PyProof.Rows L2 Evl
section
variable {K : PySem.W.Frag} {μ : List Addr} {Hd H : Hp}
/-! ### dicts -/
section
variable {X : Cx} {a b c e o i : Expr} {ta tb te to ti : TE} {ma mb m mo mi : M Vl} {es : List Expr} {tes : TA} {mes : M (List Vl)} {pos p p2 apos : Pos} {C f x : Str} {n k : Nat} {fa : Addr} {fd : FuncData} {ps : List Str} {G : Fn} {CX : CXT} {E : XK}
end
/-! ### own methods -/
end
end Hk
namespace Hk
open PySem PySem.Spec PyProof.Rows L2 Evl Hk
/-! Hk70: writing into trees: a cell becomes a tree, things put into dicts and objects. -/
section
variable {K : PySem.W.Frag} {μ : List Addr} {Hd H : Hp}
/-! ### dicts and fields by places -/
/-! ### a cell becomes a tree -/
/-! ### putting -/
end
end Hk
namespace Hk
open PySem PySem.Spec PyProof.Rows L2 Evl Hk
/-! Hk71: rules for trees: stores, dict comprehensions, fields, methods. -/
section
variable {K : PySem.W.Frag} {μ : List Addr} {Hd H : Hp}
/-! ### dict comprehensions whose things change later -/
/-! ### fields of trees as sources -/
end
section
variable {X : Cx} {a b c e o i value elt kx vx tg iter : Expr} {ifs : List Expr} {ta tb te to ti tv td tk : TE} {ma mb m mo mi mv ms mk : M Vl} {es : List Expr} {tes : TA} {mes : M (List Vl)} {pos pos' p p2 p3 apos spos py : Pos} {C f x : Str} {n k : Nat} {fa : Addr} {fd : FuncData} {ps : List Str} {G : Fn} {CX : CXT} {E : XK} {scope : Scope} {own : List (Str × Nat)} {g : TG} {gm : Vl → En → Option En} {tt : TT} {mt : M Bool}
end
end Hk
namespace Hk
open PySem PySem.Spec PyProof.Rows L2 Evl Hk
/-! Hk72: sum(list of ints), bit_length, x |= e, methods without arguments in trees, tests whether a key stands in a dict of a tree. -/
section
variable {K : PySem.W.Frag}
end
section
variable {X : Cx} {a b o : Expr} {ta tb to : TE} {ma mb mo : M Vl} {pos p apos : Pos} {C : Str} {k kk : Nat} {fa : Addr} {fd : FuncData} {ps : List Str} {G : Fn} {CX : CXT} {E : XK}
end
end Hk
namespace Hk
open PySem PySem.Spec PyProof.Rows L2 Evl Hk
/-! Hk73: enumerate of a dict that is data: dict comprehensions over it. -/
section
variable {prog : Program} {w : World} {A : Around} {E : Value → Shared → Prop} {s : Shared}
end
section
open Sem (wp)
end
section
variable {prog : Program} {w : World} {A : Around} {E : Value → Shared → Prop} {s : Shared}
end
section
variable {X : Cx} {kx vx e : Expr} {elts : List Expr} {kk : Nat} {ifs : List Expr} {td tk tv : TE} {ms mk mv : M Vl} {p epos tpos pos : Pos} {scope : Scope} {own : List (Str × Nat)} {g : TG} {gm : Vl → En → Option En} {tt : TT} {mt : M Bool}
end
end Hk
namespace Hk
open PySem PySem.Spec PyProof.Rows L2 Evl Hk
/-! Hk74: len of a dict. -/
end Hk
/-! Hk75: sorted lists of tuples of ints of any lengths. -/
namespace TsL
open PySem PySem.W PySem.Calls PyProof.Rows Builtin
section
variable {prog : Program} {w : World} {A : Around} {E : Value → Shared → Prop} {s : Shared} {M : Model}
end
section
variable {prog : Program} {w : World} {A : Around} {E : Value → Shared → Prop} {s : Shared}
end
end TsL
namespace Hk
open PySem PySem.Spec PyProof.Rows L2 Evl Hk
/-! Hk76: sorted of a list of tuples of ints. -/
/-! ### the order -/
/-! ### data -/
section
variable {K : PySem.W.Frag} {Hd H : Hp}
end
end Hk
namespace Hk
open PySem PySem.Spec PyProof.Rows L2 Evl Hk
/-! Hk77: a real object known for the time of a call: told of in the abstract heap, and forgotten again. -/
section
variable {P : Program} {w : World} {H H' : Hp} {h h' : Heap} {a c : Addr} {o : HO} {r : Obj}
end
section
variable {P : Program} {w : World} {K : PySem.W.Frag} {mg : Str → Option Value} {base : Heap} {A : Around} {outer : List Env} {s : Shared} {H : Hp} {c : Addr} {r : Obj}
end
end Hk
namespace Hk
open PySem PySem.Spec PyProof.Rows L2 Evl Hk
/-! Hk78: the relation of stores, with an object known and forgotten again. -/
section
variable {K : PySem.W.Frag} {Hd H : Hp} {c : Addr} {r : Obj}
end
end Hk
namespace Hk
open PySem PySem.Spec PyProof.Rows L2 Evl Hk
/-! Hk79: a lambda with one parameter, called: its frame, its body. -/
section
variable {P : Program} {w : World} {K : PySem.W.Frag} {mg : Str → Option Value} {base : Heap} {A : Around} {outer : List Env} {s : Shared} {H : Hp} {E : XK} {qual par : Str} {caps : List Str} {scope : Scope} {f c' : Addr} {cl : List (Str × Addr)} {x : V} {u : Value} {vs : List V}
end
end Hk
namespace Hk
open PySem PySem.Spec PyProof.Rows L2 Evl Hk
/-! Hk80: goal(e), goal a lambda of which all is known. -/
end Hk
namespace Hk
open PySem PySem.Spec PyProof.Rows L2 Evl Hk
/-! Hk81: g(e, lambda): a lambda with one parameter and one captured name is made and handed to a def; it is known for the time of the call. -/
end Hk
namespace Hk
open PySem PySem.Spec PyProof.Rows L2 Evl Hk
/-! Hk82: a lambda made: its function stands at a new place. -/
end Hk
namespace Hk
open PySem PySem.Spec PyProof.Rows L2 Evl Hk
/-! Hk83: g(e, lambda) as an expression. -/
end Hk
namespace Hk
open PySem PySem.Spec PyProof.Rows L2 Evl Hk
/-! Hk84: goal(e) and g(e, lambda), over data and cells. -/
section
variable {K : PySem.W.Frag}
end
end Hk
namespace Hk
open PySem PySem.Spec PyProof.Rows L2 Evl Hk
/-! Hk85: the rules of goal(e) and g(e, lambda). -/
section
variable {X : Cx} {e : Expr} {te tb : TE} {me mb : M Vl}
end
end Hk
/-! Hk86: the end of a law in which a def other than the law makes lambdas; what a lambda with one captured name captures; xs[-2::-1]. -/
namespace Hk
open PySem PySem.Spec PyProof.Rows L2 Evl LamX
/-! ### xs[-2::-1] -/
section
variable {X : Cx} {e : Expr} {te : TE} {m : M Vl} {k k0 : Nat} {p0 p1 p2 p3 p4 pos : Pos}
end
end Hk
namespace Hk
open PySem PySem.Spec PyProof.Rows L2 Evl Hk
/-! Hk87: == and != of data that holds dicts, where both are the same. -/
open PySem.SeqAt (EqIn)
end Hk
namespace Hk
open PySem PySem.Spec PyProof.Rows L2 Evl Hk
/-! Hk88: any(xs), xs a list of ints. -/
section
variable {X : Cx}
end
end Hk
namespace Hk
open PySem PySem.Spec PyProof.Rows L2 Evl Hk
/-! Hk89: what readings and stores in trees evaluate to. -/
theorem node_tr {ce : List Ce} {k : Nat} {t : Tr} (h : ce[k]? = some (.tr t)) (hn : t.node = true) : nodeT ce k = some (k, [], t) := by
  unfold nodeT
  rw [h]
  try dsimp only
  rw [if_pos hn]
theorem node_sub {ce : List Ce} {j k : Nat} {π : List Nat} {t s : Tr} (h : ce[j]? = some (.sub k π)) (hl : k < j) (hk : ce[k]? = some (.tr t)) (hs : subT t π = some s) : nodeT ce j = some (k, π, s) := by
  unfold nodeT
  rw [h]
  try dsimp only
  rw [if_pos hl, hk]
  try dsimp only
  rw [hs]
  rfl
theorem kid_h {j i k : Nat} {π : List Nat} {s u : Tr} {E : En} (h : nodeT E.ce j = some (k, π, s)) (hd : (kidsT s)[i]? = some u) (hu : u.node = true) : kidE j i E = some (.c E.ce.length, ⟨E.sl, E.ce ++ [.sub k (π ++ [i])]⟩) := by
  unfold kidE
  rw [h]
  try dsimp only
  rw [hd]
  cases u with
  | dat d => cases hu
  | _ => rfl
end Hk
namespace Hk
open PySem PySem.Spec PyProof.Rows L2 Evl Hk
/-! Hk90: comprehensions with a pair as target, by lists. -/
theorem pair_g {v w : Nat} {sl : List (Option Vl)} {z1 z2 : Option Vl} {ce : List Ce} {a b : Dt} (hne : v ≠ w) : tupG [nameG v, nameG w] (.d (.tup [a, b])) (wipeE [v, w] ⟨(sl.set v z1).set w z2, ce⟩) = some ⟨(sl.set v (some (.d a))).set w (some (.d b)), ce⟩ := by
  show some (setE w (.d b) (setE v (.d a) (wipeE [v, w] ⟨(sl.set v z1).set w z2, ce⟩))) = _
  unfold setE wipeE
  simp only [wipeO]
  congr 2
  apply List.ext_getElem?
  intro i
  simp only [List.getElem?_set, List.length_set]
  by_cases h1 : w = i
  · subst h1
    simp [hne]
  · by_cases h2 : v = i
    · subst h2
      simp [h1]
    · simp [h1, h2]
theorem pair_b {v w : Nat} {sl : List (Option Vl)} {z1 z2 : Option Vl} (hv : v < sl.length) (hw : w < sl.length) (hne : v ≠ w) : bring sl ((sl.set v z1).set w z2) [v, w] = sl := by
  show ((((sl.set v z1).set w z2).set w (sl[w]?.getD none)).set v (sl[v]?.getD none)) = sl
  rw [List.getElem?_eq_getElem hw, List.getElem?_eq_getElem hv]
  apply List.ext_getElem?
  intro i
  simp only [List.getElem?_set, List.length_set, Option.getD_some]
  by_cases h2 : v = i
  · subst h2
    simp [hv, List.getElem?_eq_getElem hv]
  · by_cases h1 : w = i
    · subst h1
      simp [hne, hw, List.getElem?_eq_getElem hw]
    · simp [h1, h2]
theorem comp_map2 {α : Type} {v w : Nat} {mi : M (List Dt)} {t : M Bool} {m : M Vl} {E : En} {sl : List (Option Vl)} {ce : List Ce} (Q : List Ce → Prop) (h0 : Q []) (xs : List α) (h1 h2 : α → Dt) (p : α → Bool) (F : α → Dt) (hi : mi E = some (xs.map fun a => .tup [h1 a, h2 a], ⟨sl, ce⟩)) (hv : v < sl.length) (hw : w < sl.length) (hne : v ≠ w) (hn : xs.length < 100000)
    (hs : ∀ a ∈ xs, ∀ (c : Ce) (gs : List Ce), Q gs → ∃ gs', Q gs' ∧ t ⟨(sl.set v (some (.d (h1 a)))).set w (some (.d (h2 a))), ce ++ [c] ++ gs⟩ = some (p a, ⟨(sl.set v (some (.d (h1 a)))).set w (some (.d (h2 a))), ce ++ [c] ++ gs'⟩) ∧ (p a = true → ∃ r E3 gs'', Q gs'' ∧ m ⟨(sl.set v (some (.d (h1 a)))).set w (some (.d (h2 a))), ce ++ [c] ++ gs'⟩ = some (r, E3) ∧ fzM r E3 = some (F a, ⟨(sl.set v (some (.d (h1 a)))).set w (some (.d (h2 a))), ce ++ [c] ++ gs''⟩))) :
    ∃ gs, Q gs ∧ compM [v, w] mi (tupG [nameG v, nameG w]) t m E = some (.c ce.length, ⟨sl, ce ++ [.lst ((xs.filter p).map F)] ++ gs⟩) := by
  have fl : ∀ n, ((xs.take n).filter p).length ≤ xs.length := fun n => Nat.le_trans (List.length_filter_le _ _) (by rw [List.length_take]; omega)
  obtain ⟨E2, ec, z1, z2, gs, hQ, e⟩ := comp_inv (own := [v, w]) (k := ce.length) (g := tupG [nameG v, nameG w]) (t := t) (m := m) (fun i E => ∃ (z1 z2 : Option Vl) (gs : List Ce), Q gs ∧ E = ⟨(sl.set v z1).set w z2, ce ++ [.lst (((xs.take i).filter p).map F)] ++ gs⟩) (xs.map fun a => .tup [h1 a, h2 a]) 0 ⟨sl, ce ++ [.lst []]⟩
    ⟨sl[v]'hv, sl[w]'hw, [], h0, by rw [List.append_nil, List.set_getElem_self, List.set_getElem_self]; rfl⟩ (fun i d E hd hp => by
      obtain ⟨z1, z2, gs, hQ, rfl⟩ := hp
      rw [Nat.zero_add]
      rw [List.getElem?_map] at hd
      cases hx : xs[i]? with
      | none =>
        rw [hx] at hd
        cases hd
      | some a =>
        rw [hx] at hd
        cases hd
        have et : xs.take (i + 1) = xs.take i ++ [a] := by rw [List.take_succ, hx]; rfl
        obtain ⟨gs', hQ', ht, hm⟩ := hs a (List.mem_of_getElem? hx) (.lst (((xs.take i).filter p).map F)) gs hQ
        have hg := pair_g (sl := sl) (z1 := z1) (z2 := z2) (ce := ce ++ [.lst (((xs.take i).filter p).map F)] ++ gs) (a := h1 a) (b := h2 a) hne
        rw [et, List.filter_append, List.map_append]
        cases hb : p a with
        | true =>
          rw [hb] at ht
          obtain ⟨r, E3, gs'', hQ'', k1, k2⟩ := hm hb
          have hl := fl i
          refine ⟨_, zt_yes hg ht k1 k2 (get_mid _ _ _) (by rw [List.length_map]; omega), some (.d (h1 a)), some (.d (h2 a)), gs'', hQ'', ?_⟩
          rw [set_mid, List.filter_cons, hb]
          rfl
        | false =>
          rw [hb] at ht
          refine ⟨_, zt_no hg ht, some (.d (h1 a)), some (.d (h2 a)), gs', hQ', ?_⟩
          rw [List.filter_cons, hb]
          simp)
  rw [List.length_map, Nat.zero_add, List.take_length] at e
  refine ⟨gs, hQ, ?_⟩
  rw [zv_comp hi ec, e, pair_b hv hw hne]
end Hk
/-! Hk91: xs[a:b:c] of lists, any step but 0. -/
namespace Hk
open PySem PySem.Spec PyProof.Rows L2 Evl LamX
section
variable {X : Cx} {e : Expr} {te : TE} {m : M Vl} {lo hi : Option Expr} {se : Expr} {tl th ts : TO} {ml mh ms : M (Option Int)} {p3 pos : Pos}
end
end Hk
/-! Hk92: comprehensions by lists, with something kept of the garbage. -/
namespace Hk
open PySem PySem.Spec PyProof.Rows L2 Evl
end Hk
/-! Hk93: sorted(set(t)), t a tuple of ints. -/
namespace Hk
open PySem PySem.Spec PyProof.Rows L2 Evl
/-- each once -/
def dedu {α : Type} [DecidableEq α] : List α → List α
  | [] => []
  | x :: l => if x ∈ l then dedu l else x :: dedu l
theorem dedu_mem {α : Type} [DecidableEq α] {k : α} : ∀ {l : List α}, k ∈ dedu l ↔ k ∈ l
  | [] => Iff.rfl
  | x :: l => by
    unfold dedu
    by_cases h : x ∈ l
    · rw [if_pos h, dedu_mem, List.mem_cons]
      exact ⟨.inr, fun z => z.elim (fun e => e ▸ h) id⟩
    · rw [if_neg h, List.mem_cons, List.mem_cons, dedu_mem]
theorem dedu_nd {α : Type} [DecidableEq α] : ∀ l : List α, (dedu l).Nodup
  | [] => List.nodup_nil
  | x :: l => by
    unfold dedu
    by_cases h : x ∈ l
    · rw [if_pos h]
      exact dedu_nd l
    · rw [if_neg h]
      exact List.nodup_cons.mpr ⟨fun z => h (dedu_mem.mp z), dedu_nd l⟩
/-! ### the rules -/
section
variable {X : Cx} {a : Expr} {ta : TE} {ma : M Vl} {p q cpos spos : Pos}
end
end Hk
/-! Hk94: sorted(set(xs)), xs a list of tuples of ints of any lengths. -/
namespace Hk
open PySem PySem.Spec PyProof.Rows L2 Evl
section
variable {P : Program} {w : World} {A : Around} {E : Value → Shared → Prop} {s : Shared} {a : Addr} {L : List (Addr × List Int)} {es : Array (Int × Value)} {ep : Nat} {t : SetTable}
end
theorem perm_both {α : Type} [DecidableEq α] {l m : List α} (hl : l.Nodup) (hm : m.Nodup) (h : ∀ x, x ∈ l ↔ x ∈ m) : l.Perm m := perm_nd l m hl (fun x hx => (h x).mp hx) (hm.length_le_of_subset fun x hx => (h x).mpr hx)
section
variable {X : Cx} {a : Expr} {ta : TE} {ma : M Vl} {p q cpos spos : Pos}
end
end Hk
/-! Hk95: x in xs, xs a list of data of any depth. -/
namespace Hk
open PySem PySem.Spec PyProof.Rows L2 Evl
/-! ### tuples of ints as data -/
end Hk
/-! Hk96: len(set(xs)), xs a list of ints that may stand there twice. -/
namespace Hk
open PySem PySem.Spec PyProof.Rows L2 Evl
section
variable {X : Cx} {a : Expr} {ta : TE} {ma : M Vl} {p p2 q pos : Pos}
end
end Hk
/-! Hk97: sorted(set(xs)), xs a list of ints. -/
namespace Hk
open PySem PySem.Spec PyProof.Rows L2 Evl
section
variable {P : Program} {w : World} {A : Around}
section
variable {E : Value → Shared → Prop} {s : Shared}
end
end
/-! ### the rule -/
section
variable {X : Cx} {a : Expr} {ta : TE} {ma : M Vl} {p q cpos spos : Pos}
end
end Hk
/-! Hk98: a, b, c = x, y, z. -/
namespace Hk
open PySem PySem.Spec PyProof.Rows L2 Evl
section
variable {X : Cx} {a b c : Expr} {tes : TA} {mes : M (List Vl)} {pos : Pos}
end
end Hk
/-! Hk99: sets of at most four tuples of texts, in the raw heap: searched, added to. -/
namespace Hk
open PySem PySem.Spec PyProof.Rows L2 Evl
/-- the tuple at b holds the texts k -/
abbrev IsW (P : Program) (w : World) (h : Heap) (k : List Str) (b : Addr) : Prop := IsTupleKey (strKind P w) h k b
abbrev hashW (P : Program) (w : World) (k : List Str) : Int := tupleKeyHash (strKind P w) k
theorem items_w {P : Program} {w : World} {k : List Str} {vs : List Value} (h : ItemsAre (strKind P w) k vs) : ∀ v ∈ vs, ∃ z t, v = Value.str z t := by
  induction h with
  | nil => exact fun v hv => absurd hv List.not_mem_nil
  | @cons z u ks vs h1 _ ih => exact fun v hv => (List.mem_cons.mp hv).elim (fun e => ⟨z, by obtain ⟨t, q⟩ := Value.isStrOf_shape h1; exact ⟨t, e.trans q⟩⟩) (ih v)
theorem noCls_str (n : Nat) (z : Str) (t : Tok) : ofAClassStatement n (.str z t) = pure false := by cases n <;> rfl
theorem byVal_str (n : Nat) (z : Str) (t : Tok) : hashByValue n (.str z t) = pure false := by rw [hashByValue_scannable n rfl]; rfl
section
variable {P : Program} {w : World} {A : Around} {E : Value → Shared → Prop} {s : Shared}
theorem noCls_w {k : List Str} {b : Addr} {Q : Bool → Shared → Prop} (hk : IsW P w s.heap k b) (q : Q false s) : wpAny (model P w) A (ofAClassStatement 8 (.ref b)) Q E s := by
  have ty := hk.typeIs
  obtain ⟨o, its, n, ho, _, hd, hi⟩ := hk
  unfold ofAClassStatement; refine wpAny_bind (wpAny_typeOf ty ?_); dsimp only
  simp only [show (("tuple" : String) == "tuple") = true from by decide, ↓reduceIte, Bool.not_true, Bool.false_eq_true]
  try refine wpAny_bind (wpAny_pure ?_)
  try simp only [Bool.not_true, Bool.false_eq_true, ↓reduceIte]
  show wpAny _ _ (seqItems? (.ref b) >>= _) _ _ s; refine wpAny_bind (wpAny_seqItems ho hd (wpAny_bind ?_))
  show wpAny _ _ (forIn its _ _) _ _ s; rw [← Array.forIn_toList]
  refine wpAny_forIn_list _ (fun left c z => c.1 = none ∧ z = s ∧ ∀ v ∈ left, ∃ y t, v = Value.str y t) _ (fun v left c z h => ?_) (fun c z h => ?_) _ _ ⟨rfl, rfl, items_w hi⟩
  · obtain ⟨h1, rfl, h3⟩ := h
    obtain ⟨y, t, rfl⟩ := h3 v List.mem_cons_self
    rw [noCls_str]; refine wpAny_bind (wpAny_pure ?_); simp only [Bool.false_eq_true, ↓reduceIte]
    exact wpAny_pure ⟨rfl, rfl, fun u hu => h3 u (List.mem_cons_of_mem _ hu)⟩
  · obtain ⟨c1, c2⟩ := c
    obtain ⟨h1, rfl, _⟩ := h
    cases (show c1 = none from h1)
    exact wpAny_pure q
theorem byVal_w {k : List Str} {b : Addr} {Q : Bool → Shared → Prop} (hk : IsW P w s.heap k b) (q : ∀ r, Q r s) : wpAny (model P w) A (hashByValue 8 (.ref b)) Q E s := by
  have ty := hk.typeIs
  obtain ⟨o, its, n, ho, _, hd, hi⟩ := hk
  unfold hashByValue; refine wpAny_bind (wpAny_specialOf ty F.slot_tuple_hash.lookup ?_)
  show wpAny _ _ (seqItems? (.ref b) >>= _) _ _ s; refine wpAny_bind (wpAny_seqItems ho hd (wpAny_bind ?_))
  show wpAny _ _ (forIn its _ _) _ _ s; rw [← Array.forIn_toList]
  refine wpAny_forIn_list _ (fun left c z => c.1 = none ∧ z = s ∧ ∀ v ∈ left, ∃ y t, v = Value.str y t) _ (fun v left c z h => ?_) (fun c z h => ?_) _ _ ⟨rfl, rfl, items_w hi⟩
  · obtain ⟨h1, rfl, h3⟩ := h
    obtain ⟨y, t, rfl⟩ := h3 v List.mem_cons_self
    rw [byVal_str]; refine wpAny_bind (wpAny_pure ?_); simp only [Bool.not_false, ↓reduceIte]
    exact wpAny_pure (wpAny_pure (q false))
  · obtain ⟨c1, c2⟩ := c
    obtain ⟨h1, rfl, _⟩ := h
    cases (show c1 = none from h1)
    exact wpAny_pure (q true)
theorem unseen_w {k : List Str} {b : Addr} {Q : Bool → Shared → Prop} (hk : IsW P w s.heap k b) {ys : List Value} (hy : ∀ y ∈ ys, ∃ k' c, y = Value.ref c ∧ IsW P w s.heap k' c) (q : Q false s) :
    wpAny (model P w) A (searchCouldBeSeen (.ref b) ys) Q E s := by
  unfold searchCouldBeSeen
  refine wpAny_bind (wpAny_forIn_list _ (fun left c z => c.1 = none ∧ z = s ∧ ∀ y ∈ left, ∃ k' c, y = Value.ref c ∧ IsW P w s.heap k' c) _ (fun v left c z h => ?_) (fun c z h => ?_) _ _ ⟨rfl, rfl, hy⟩)
  · obtain ⟨h1, rfl, h3⟩ := h
    obtain ⟨k', c', rfl, hc⟩ := h3 v List.mem_cons_self
    have more : ∀ y ∈ left, ∃ k' c, y = Value.ref c ∧ IsW P w z.heap k' c := fun u hu => h3 u (List.mem_cons_of_mem _ hu)
    dsimp only
    by_cases hv : (b == c' || (carriedByValue (.ref b) && carriedByValue (.ref c'))) = true
    · exact wp_if_pos hv (wpAny_pure ⟨rfl, rfl, more⟩)
    · refine wp_if_neg hv (wpAny_bind (wpAny_eqIsQuiet_tuple hk ?_)); simp only [Bool.not_true, Bool.false_eq_true, ↓reduceIte]
      refine wpAny_bind (wpAny_eqIsQuiet_tuple hc ?_); simp only [Bool.not_true, Bool.false_eq_true, ↓reduceIte]
      refine wpAny_bind (noCls_w hk ?_); simp only [Bool.false_eq_true, ↓reduceIte]
      refine wpAny_bind (noCls_w hc ?_); simp only [Bool.false_eq_true, ↓reduceIte]
      exact wpAny_pure ⟨rfl, rfl, more⟩
  · obtain ⟨c1, c2⟩ := c
    obtain ⟨h1, rfl, _⟩ := h
    cases (show c1 = none from h1)
    exact wpAny_pure q
end
/-- what stands in the table for a tuple -/
abbrev entW (P : Program) (w : World) (p : Addr × List Str) : Int × Value := (hashW P w p.2, Value.ref p.1)
/-- a small table of tuples of texts -/
structure TwT (P : Program) (w : World) (L : List (Addr × List Str)) (es : Array (Int × Value)) (t : SetTable) : Prop where
  ents : es.toList = L.map (entW P w)
  tab : TabOk t (L.map fun p => hashW P w p.2)
  m7 : t.mask = 7
  few : L.length ≤ 4
  nd : (L.map (·.2)).Nodup
  led : w.params.followText "set-order" = true ∨ t.led = true
section
variable {P : Program} {w : World} {A : Around} {E : Value → Shared → Prop} {s : Shared} {a : Addr} {L : List (Addr × List Str)} {es : Array (Int × Value)} {ep : Nat} {t : SetTable}
theorem TwT.size (T : TwT P w L es t) : es.size = L.length := by
  rw [← Array.length_toList, T.ents, List.length_map]
theorem TwT.psize (T : TwT P w L es t) : t.place.size = L.length := T.tab.sz.trans (List.length_map _)
theorem TwT.fits (T : TwT P w L es t) : t.fits es.size = true := by
  have h1 := T.psize; have h2 := T.size; have h3 := T.few; have h4 := T.m7
  unfold SetTable.fits SetTable.fill
  rw [T.tab.dm, Bool.and_eq_true, beq_iff_eq, decide_eq_true_eq]
  show t.place.size = es.size ∧ t.place.size + 0 ≤ t.mask
  omega
theorem TwT.at_ (T : TwT P w L es t) {i : Nat} {p : Addr × List Str} (h : L[i]? = some p) : es[i]? = some (entW P w p) := by
  rw [← Array.getElem?_toList, T.ents, List.getElem?_map, h]
  rfl
abbrev prW (m : Nat) (h : Int) : SetTable.Probe := runAt m (SetTable.bits h % (m + 1)) (SetTable.bits h)
theorem nth_nodummy (m : Nat) : ∀ (n : Nat) (p : SetTable.Probe), p.dummy = none → (nth m p n).dummy = none
  | 0, _, h => h
  | n + 1, p, h => nth_nodummy m n (adv m p) (by unfold adv; split <;> exact h)
/-- the search, from the c-th place of the way on -/
theorem find_w {o : Obj} (ho : s.heap.get? a = some o) (hd : o.data = .set es ep t) (T : TwT P w L es t) (tup : ∀ p ∈ L, IsW P w s.heap p.2 p.1) {x : Addr} {k : List Str} (hx : IsW P w s.heap k x) (hu : A.units < cLine) {K : Nat}
    (fK : K < 10 * SetTable.turns t.mask) (free : way t.mask (hashW P w k) K ∉ t.place.toList) (full : ∀ c, c < K → way t.mask (hashW P w k) c ∈ t.place.toList) {Q : SetFound → Shared → Prop}
    (q1 : k ∈ L.map (·.2) → Q (.there none) s) (q2 : k ∉ L.map (·.2) → Q (.free (way t.mask (hashW P w k) K) false) s) :
    ∀ (n c f : Nat) (st : Option SetTable.Probe), K = c + n → n < f → st.getD (t.probeStart (hashW P w k)) = nth t.mask (prW t.mask (hashW P w k)) c →
      (∀ (i : Nat) p, L[i]? = some p → p.2 = k → ∀ c', c' < c → t.place.toList[i]? ≠ some (way t.mask (hashW P w k) c')) →
      wpAny (model P w) A (setSearchFrom a (.ref x) (hashW P w k) true f st) Q E s := by
  intro n
  induction n using Nat.strongRecOn with
  | _ n ih =>
    intro c f st hK hf hst hno
    obtain ⟨f, rfl⟩ : ∃ g, f = g + 1 := ⟨f - 1, by omega⟩
    have add : ∀ j, nth t.mask (nth t.mask (prW t.mask (hashW P w k)) c) j = nth t.mask (prW t.mask (hashW P w k)) (c + j) := fun j => (nth_add t.mask c _ j).symm
    have wy : ∀ j, (nth t.mask (nth t.mask (prW t.mask (hashW P w k)) c) j).j = way t.mask (hashW P w k) (c + j) := fun j => congrArg SetTable.Probe.j (add j)
    have hsh : ∀ (i : Nat) p, L[i]? = some p → (es[i]?.map (·.1)).getD 0 = hashW P w p.2 := fun i p hp => by rw [T.at_ hp]; rfl
    have isat : ∀ p0 : Addr × List Str, p0 ∈ L → p0.2 = k → ∃ i c', L[i]? = some p0 ∧ c ≤ c' ∧ c' < K ∧ t.place.toList[i]? = some (way t.mask (hashW P w k) c') := fun p0 hp0 e0 => by
      obtain ⟨i, hi, e⟩ := List.getElem_of_mem hp0
      have e1 : L[i]? = some p0 := by rw [List.getElem?_eq_getElem hi, e]
      have lt : i < t.place.toList.length := by rw [Array.length_toList, T.psize]; exact hi
      obtain ⟨c', h1, h2⟩ := T.tab.before (h := hashW P w k) free (i := i) (by rw [List.getElem?_map, e1, ← e0]; rfl) (List.getElem?_eq_getElem lt)
      have e2 : t.place.toList[i]? = some (way t.mask (hashW P w k) c') := by rw [List.getElem?_eq_getElem lt, h2]
      refine ⟨i, c', e1, ?_, h1, e2⟩
      rcases Nat.lt_or_ge c' c with z | z
      · exact absurd e2 (hno i p0 e1 e0 c' z)
      · exact z
    rw [setSearchFrom_succ]
    refine wpAny_bind (wpAny_setState_of ho hd T.fits ?_); dsimp only
    refine wp_if_neg (by unfold SetTable.gaveWay; rw [T.m7]; decide) ?_
    try refine wpAny_bind (wpAny_pure ?_)
    have spec := go_spec t T.tab.ris T.tab.dm (fun i => (es[i]?.map (·.1)).getD 0) (hashW P w k) (10 * SetTable.turns t.mask) n _ (nth_nodummy t.mask c (prW t.mask (hashW P w k)) rfl) (by omega)
      (fun j hj => by rw [wy]; exact full _ (by omega)) (by rw [wy, ← hK]; exact free)
    rcases spec with ⟨j, i, hj, hi, hh, hn, hp⟩ | ⟨hn, hp⟩
    · have hp' : t.probe (fun i => (es[i]?.map (·.1)).getD 0) (hashW P w k) (st.getD (t.probeStart (hashW P w k))) = some (.candidate (way t.mask (hashW P w k) (c + j)) i (nth t.mask (prW t.mask (hashW P w k)) (c + (j + 1)))) := by
        rw [hst, ← wy, ← add]; exact hp
      rw [hp']; dsimp only
      rw [wy] at hi
      have il : i < L.length := by
        have := (List.getElem?_eq_some_iff.mp hi).1
        rw [Array.length_toList, T.psize] at this
        exact this
      obtain ⟨p, pe⟩ : ∃ p, L[i]? = some p := ⟨L[i], List.getElem?_eq_getElem il⟩
      have pm : p ∈ L := List.mem_of_getElem? pe
      have live : t.slot (way t.mask (hashW P w k) (c + j)) = .live i := slot_live T.tab.ris hi
      have go : wpAny (model P w) A (searchRest a (.ref x) (hashW P w k) true f es t (way t.mask (hashW P w k) (c + j)) i (nth t.mask (prW t.mask (hashW P w k)) (c + (j + 1)))) Q E s := by
        unfold searchRest; rw [T.at_ pe]; dsimp only
        refine wpAny_bind (wpAny_holding (wpAny_eqBool_tuple hu (tup p pm) hx ?_)); refine wpAny_bind (wpAny_setState_of ho hd T.fits ?_); dsimp only
        by_cases e : p.2 = k
        · exact wp_if_pos (by simp [e]) (wpAny_pure (q1 (List.mem_map.mpr ⟨p, pm, e⟩)))
        · refine wp_if_neg (by simp [e]) ?_
          try refine wpAny_bind (wpAny_pure ?_)
          rw [sameMem]; dsimp only
          simp only [↓reduceIte, live, T.at_ pe]
          refine wpAny_bind (wpAny_isSame_ref_self (wpAny_bind (wpAny_pure ?_))); simp only [↓reduceIte]
          refine wp_if_neg (by simp [e]) (ih (n - (j + 1)) (by omega) (c + (j + 1)) f _ (by omega) (by omega) rfl fun i0 p0 h0 k0 c' hc' h1 => ?_)
          rcases Nat.lt_trichotomy c' (c + j) with z | z | z
          · rcases Nat.lt_or_ge c' c with y | y
            · exact hno i0 p0 h0 k0 c' y h1
            · refine hn (c' - c) i0 (by omega) (by rw [wy, show c + (c' - c) = c' by omega]; exact h1) ?_
              exact (hsh i0 p0 h0).trans (by rw [k0])
          · rw [z] at h1
            have l2 := slot_live T.tab.ris h1
            rw [live] at l2
            injection l2 with l2
            rw [← l2, pe] at h0
            cases h0
            exact e k0
          · omega
      by_cases hl : t.led = true
      · refine wp_if_neg (by simp [hl]) ?_
        try refine wpAny_bind (wpAny_pure ?_)
        exact go
      · refine wp_if_pos (by simp [hl]) (wpAny_bind (unseen_w hx (fun y hy => ?_) ?_))
        · obtain ⟨e, he, rfl⟩ := List.mem_map.mp hy
          have h1 : e ∈ es ∧ e.1 = hashW P w k := by simpa using he
          have h2 : e ∈ es.toList := by simpa using h1.1
          rw [T.ents] at h2
          obtain ⟨p2, hp2, rfl⟩ := List.mem_map.mp h2
          exact ⟨p2.2, p2.1, rfl, tup p2 hp2⟩
        · refine wp_if_neg (by decide) ?_
          try refine wpAny_bind (wpAny_pure ?_)
          exact go
    · have hp' : t.probe (fun i => (es[i]?.map (·.1)).getD 0) (hashW P w k) (st.getD (t.probeStart (hashW P w k))) = some (.empty (way t.mask (hashW P w k) K) none) := by
        rw [hst, hK, ← wy]; exact hp
      rw [hp']; dsimp only
      refine wpAny_pure (q2 fun hm => ?_)
      obtain ⟨p0, h0, e0⟩ := List.mem_map.mp hm
      obtain ⟨i, c', h1, h2, h3, h4⟩ := isat p0 h0 e0
      refine hn (c' - c) i (by omega) (by rw [wy, show c + (c' - c) = c' by omega]; exact h4) ?_
      exact (hsh i p0 h1).trans (by rw [e0])
end
/-! ### one tuple more -/
def putW (q : Addr × List Str) (L : List (Addr × List Str)) : List (Addr × List Str) := if q.2 ∈ L.map (·.2) then L else q :: L
/-- in the heap, in whatever order the table has them -/
def TwAt (P : Program) (w : World) (h : Heap) (a : Addr) (L : List (Addr × List Str)) : Prop := ∃ (L' : List (Addr × List Str)) (es : Array (Int × Value)) (ep : Nat) (t : SetTable), (∃ o, h.get? a = some o ∧ o.ExactSet ∧ o.data = .set es ep t) ∧ TwT P w L' es t ∧ L'.Perm L
section
variable {P : Program} {w : World} {A : Around} {E : Value → Shared → Prop} {s : Shared} {a : Addr} {L : List (Addr × List Str)}
theorem TwAt.old {h h' : Heap} (R : TwAt P w h a L) (k : ∀ o, h.get? a = some o → h'.get? a = some o) : TwAt P w h' a L := by
  obtain ⟨L', es, ep, t, ⟨o, ho, r⟩, T⟩ := R
  exact ⟨L', es, ep, t, ⟨o, k o ho, r⟩, T⟩
theorem TwAt.few {h : Heap} (R : TwAt P w h a L) : L.length ≤ 4 := by
  obtain ⟨L', _, _, _, _, T, pm⟩ := R
  rw [← pm.length_eq]
  exact T.few
theorem TwAt.nd {h : Heap} (R : TwAt P w h a L) : (L.map (·.2)).Nodup := by
  obtain ⟨L', _, _, _, _, T, pm⟩ := R
  exact (pm.map (·.2)).nodup_iff.mp T.nd
theorem addW_raw (R : TwAt P w s.heap a L) (tup : ∀ p ∈ L, IsW P w s.heap p.2 p.1) {x : Addr} {k : List Str} (hx : IsW P w s.heap k x) (hu : A.units < cLine) (room : k ∉ L.map (·.2) → L.length < 4) {Q : Bool → Shared → Prop}
    (q : ∀ b h', Heap.SameBut a s.heap h' → TwAt P w h' a (putW (x, k) L) → Q b { s with heap := h' }) : wpAny (model P w) A (setAddHashed a (.ref x) (hashW P w k)) Q E s := by
  obtain ⟨L', es, ep, t, ⟨o, ho, hex, hd⟩, T, pm⟩ := R
  have same : ∀ y, y ∈ L'.map (·.2) ↔ y ∈ L.map (·.2) := fun y => (pm.map (·.2)).mem_iff
  obtain ⟨K, fK, free, full⟩ := T.tab.first (by rw [List.length_map, T.m7]; have := T.few; omega) (hashW P w k)
  have big : K < 100000 := by
    rw [T.m7] at fK
    have : 10 * SetTable.turns 7 ≤ 100000 := by decide
    omega
  unfold setAddHashed; refine wpAny_holding ?_
  rw [show (100000 : Nat) = 99999 + 1 from rfl, setAddHashedIn_succ]
  refine wpAny_bind (wpAny_setState_of ho hd T.fits ?_); dsimp only
  refine wp_if_neg (by simp [byScan, Value.scannable]) ?_
  try refine wpAny_bind (wpAny_pure ?_)
  unfold setSearch
  refine wpAny_bind (find_w ho hd T (fun p hp => tup p (pm.mem_iff.mp hp)) hx hu fK free full (fun hm => ?_) (fun hm => ?_) K 0 100000 none (Nat.zero_add _).symm big rfl fun _ _ _ _ c' z => absurd z (Nat.not_lt_zero _))
  · dsimp only
    have z := q false s.heap (Heap.SameBut.refl a s.heap)
    unfold putW at z
    rw [if_pos ((same k).mp hm)] at z
    exact wpAny_pure (z ⟨L', es, ep, t, ⟨o, ho, hex, hd⟩, T, pm⟩)
  · dsimp only
    refine wpAny_bind (wpAny_setState_of ho hd T.fits ?_); dsimp only
    have nm : k ∉ L.map (·.2) := fun z => hm ((same k).mpr z)
    have hl : L'.length < 4 := by rw [pm.length_eq]; exact room nm
    obtain ⟨g1, g2, g3, g4, g5, g6, g7, g8, g9⟩ := T.tab.put free full
    generalize hpt : t.put (way t.mask (hashW P w k) K) = pt at g1 g3 g4 g5 g6 g7 g8 g9 ⊢
    obtain ⟨t1, at1⟩ := pt
    dsimp only at g1 g3 g4 g5 g6 g7 g8 g9 ⊢
    subst g1
    have he : (SetTable.insertAt es (SetTable.below t.place (way t.mask (hashW P w k) K)) (hashW P w k, Value.ref x)).toList = (L'.take (SetTable.below t.place (way t.mask (hashW P w k) K)) ++ (x, k) :: L'.drop (SetTable.below t.place (way t.mask (hashW P w k) K))).map (entW P w) := by
      rw [SetTable.toList_insertAt, T.ents, List.map_append, List.map_cons, List.map_take, List.map_drop]
    generalize SetTable.below t.place (way t.mask (hashW P w k) K) = j at g2 g3 he ⊢
    have pj := put_perm L' j (x, k)
    have len := pj.length_eq
    rw [List.length_cons] at len
    have hh : (L'.take j ++ (x, k) :: L'.drop j).map (fun p => hashW P w p.2) = (L'.map fun p => hashW P w p.2).take j ++ hashW P w k :: (L'.map fun p => hashW P w p.2).drop j := by
      rw [List.map_append, List.map_cons, List.map_take, List.map_drop]
    rw [← hh] at g3
    have nd1 : ((L'.take j ++ (x, k) :: L'.drop j).map (·.2)).Nodup := (pj.map (·.2)).nodup_iff.mpr (List.nodup_cons.mpr ⟨hm, T.nd⟩)
    generalize SetTable.insertAt es j (hashW P w k, Value.ref x) = es1 at he ⊢
    generalize L'.take j ++ (x, k) :: L'.drop j = L1 at pj len g3 nd1 he
    have sz1 : es1.size = L'.length + 1 := by rw [← Array.length_toList, he, List.length_map, len]
    have nf : ∀ {t2 : SetTable}, t2.fill = t1.fill → t2.mask = t1.mask → ¬ (t2.tooFull = true) := fun {t2} f1 f2 => by
      unfold SetTable.tooFull
      rw [decide_eq_true_eq, f1, f2, g9, List.length_map, g4, T.m7]
      omega
    have go : ∀ t2 : SetTable, t2.place = t1.place → t2.dummies = t1.dummies → t2.mask = t1.mask → t2.led = t1.led → wpAny (model P w) A (do
        storeSet a es1 t2
        if (!false && t2.tooFull) = true then setRelay a (SetTable.grown (es.size + 1))
        return true) Q E s := fun t2 f1 f2 f3 f4 => by
      refine wpAny_bind (wpAny_storeSet_of ho hd ?_ (by rw [sz1, sizeLine_eq]; omega))
      have nf2 := nf (t2 := t2) (by unfold SetTable.fill; rw [f1, f2]) f3
      first
        | refine wp_if_neg (by simp [nf2]) ?_
        | (refine wpAny_bind ?_; refine wp_if_neg (by simp [nf2]) ?_; refine wpAny_pure ?_)
      have z := q true _ (Heap.SameBut.update s.heap a (Obj.putSet es1 t2))
      unfold putW at z
      rw [if_neg nm] at z
      exact wpAny_pure (z ⟨L1, es1, ep + 1, t2, ⟨_, store_at ho hd, ⟨hex.1, hex.2.1, hex.2.2⟩, rfl⟩, ⟨he, ⟨by rw [f1]; exact g3.ris, by rw [f2]; exact g3.dm, by rw [f1]; exact g3.sz, by rw [f3]; exact g3.mok, by rw [f1, f3]; exact g3.bd, by rw [f1, f3]; exact g3.reach⟩, f3.trans (g4.trans T.m7), by rw [len]; omega, nd1, by rw [f4, g5]; exact T.led⟩, pj.trans (pm.cons _)⟩)
    by_cases gp : t1.plain = true
    · first
        | (refine wpAny_bind ?_; refine wp_if_pos gp ?_; refine byVal_w hx fun r => ?_)
        | refine wp_if_pos gp (wpAny_bind (byVal_w hx fun r => ?_))
      cases r
      · exact go { t1 with plain := false } rfl rfl rfl rfl
      · exact go t1 rfl rfl rfl rfl
    · first
        | (refine wpAny_bind ?_; refine wp_if_neg gp ?_; refine wpAny_pure ?_)
        | refine wp_if_neg gp (wpAny_bind (wpAny_pure ?_))
      exact go t1 rfl rfl rfl rfl
theorem isW_old {h h' : Heap} {k : List Str} {b : Addr} (hb : IsW P w h k b) (hs : ∀ c o, h.get? c = some o → h'.get? c = some o) : IsW P w h' k b := by
  obtain ⟨o1, its, n, h1, r⟩ := hb
  exact ⟨o1, its, n, hs b o1 h1, r⟩
/-- set.add of a tuple of texts -/
theorem sAddW_raw {Q : Value → Shared → Prop} (R : TwAt P w s.heap a L) (tup : ∀ p ∈ L, IsW P w s.heap p.2 p.1) {x : Addr} {k : List Str} (hx : IsW P w s.heap k x) (hu : A.units + 1 < cLine) (room : k ∉ L.map (·.2) → L.length < 4)
    (q : ∀ h' tk, Heap.SameBut a s.heap h' → TwAt P w h' a (putW (x, k) L) → Q .none { s with heap := h', toks := tk }) : wpAny (model P w) A (call (.builtin "set.add") [.ref a, .ref x]) Q E s := by
  have ty : s.TypeIs (.ref a) "set" := by
    obtain ⟨_, _, _, _, ⟨o, ho, hex, _⟩, _⟩ := R
    exact ⟨o, ho, hex.1⟩
  refine wpAny_call_entry F.slot_set_add ty F.entry_set_add ?_ (F.args_set_add_2 _ _)
  unfold Builtin.«set.add» Builtin.Frozenset.oneOther; simp only [List.isEmpty_nil, bind_assoc]; unfold Builtin.Frozenset.addrOf setAdd
  refine wpAny_bind (wpAny_pure ?_); try dsimp only
  refine wpAny_bind (wpAny_pure ?_); try dsimp only
  refine wpAny_bind (wpAny_holding (wpAny_bind (wpAny_pyHash_tuple (by show A.units + 1 < cLine; exact hu) hx ?_)))
  refine addW_raw (s := { s with toks := s.toks + (k.length + 1) }) R tup hx (by show A.units + 1 < cLine; exact hu) room fun b h' sb R' => ?_
  exact wpAny_pure ⟨_, rfl, q h' _ sb R'⟩
/-- one more, as set.update does it -/
theorem inW_raw {Q : Bool → Shared → Prop} (R : TwAt P w s.heap a L) (tup : ∀ p ∈ L, IsW P w s.heap p.2 p.1) {x : Addr} {k : List Str} (hx : IsW P w s.heap k x) (hu : A.units < cLine) (room : k ∉ L.map (·.2) → L.length < 4)
    (q : ∀ b h' tk, s.toks ≤ tk → Heap.SameBut a s.heap h' → TwAt P w h' a (putW (x, k) L) → Q b { s with heap := h', toks := tk }) : wpAny (model P w) A (setAdd a (.ref x)) Q E s := by
  unfold setAdd
  refine wpAny_holding (wpAny_bind (wpAny_pyHash_tuple hu hx ?_))
  exact addW_raw (s := { s with toks := s.toks + (k.length + 1) }) R tup hx hu room fun b h' sb R' => q b h' _ (Nat.le_add_right _ _) sb R'
theorem freshW {h : Heap} (ho : h.get? a = some (fsO w)) : TwAt P w h a [] :=
  ⟨[], #[], 0, .fresh 0 0 (!w.params.followText "set-order"), ⟨_, ho, ⟨rfl, rfl, rfl⟩, rfl⟩, ⟨rfl, ⟨List.Pairwise.nil, rfl, rfl, .inl rfl, fun x hx => absurd hx List.not_mem_nil, fun i h j hi => by simp at hi⟩, rfl, Nat.zero_le _, List.nodup_nil, by
    show _ ∨ (!w.params.followText "set-order") = true
    cases w.params.followText "set-order" <;> first | exact .inl rfl | exact .inr rfl⟩, List.Perm.nil⟩
end
end Hk
/-! Hk100: the order of tuples of texts; set(list) and sorted of such, in the raw heap. -/
namespace Hk
open PySem PySem.Spec PyProof.Rows L2 Evl
/-! ### the order -/
abbrev itW (z : Str) : Int ⊕ List Nat := .inr z.cps.toList
def ltW (a b : List Str) : Bool := PyProof.Rows.lexLt itemOrd (a.map itW) (b.map itW)
theorem itW_inj {a b : Str} (h : itW a = itW b) : a = b := by
  have h := Sum.inr.inj h
  cases a
  cases b
  simp only [Str.mk.injEq]
  exact Array.toList_inj.mp h
theorem mapW_inj : ∀ {a b : List Str}, a.map itW = b.map itW → a = b
  | [], [], _ => rfl
  | [], _ :: _, h => by cases h
  | _ :: _, [], h => by cases h
  | x :: a, y :: b, h => by
    obtain ⟨h1, h2⟩ := List.cons.inj h
    rw [itW_inj h1, mapW_inj h2]
theorem ltW_asym {a b : List Str} (h : ltW a b = true) : ltW b a = false := by
  cases z : ltW b a with
  | false => rfl
  | true =>
    have := (lex_trans (O := itemOrd) _ _ _ h z).symm.trans (lex_irrefl _)
    cases this
theorem ltW_tr {a b c : List Str} (h1 : ltW b a = false) (h2 : ltW c b = false) : ltW c a = false := by
  cases z : ltW c a with
  | false => rfl
  | true =>
    rcases lex_negTrans (O := itemOrd) _ (b.map itW) _ z with y | y
    · exact y.symm.trans h2
    · exact y.symm.trans h1
def leW (a b : List Str) : Bool := !ltW b a
theorem leW_iff {a b : List Str} : leW a b = true ↔ ltW b a = false := by
  unfold leW
  cases ltW b a <;> simp
theorem leW_anti {a b : List Str} (h1 : leW a b = true) (h2 : leW b a = true) : a = b := mapW_inj (lex_total _ _ (leW_iff.mp h2) (leW_iff.mp h1))
def sortW (l : List (List Str)) : List (List Str) := l.mergeSort leW
theorem sortW_perm (l : List (List Str)) : (sortW l).Perm l := List.mergeSort_perm l leW
theorem sortW_le (l : List (List Str)) : (sortW l).Pairwise (fun a b => leW a b = true) :=
  List.pairwise_mergeSort (le := leW) (fun _ _ _ h1 h2 => leW_iff.mpr (ltW_tr (leW_iff.mp h1) (leW_iff.mp h2))) (fun a b => by
    rw [Bool.or_eq_true, leW_iff, leW_iff]
    cases h : ltW b a with
    | false => exact .inl rfl
    | true => exact .inr (ltW_asym h)) l
theorem leW_unique : ∀ (l m : List (List Str)), l.Perm m → l.Pairwise (fun a b => leW a b = true) → m.Pairwise (fun a b => leW a b = true) → l = m
  | [], m, hp, _, _ => hp.nil_eq
  | x :: l, [], hp, _, _ => hp.symm.nil_eq.symm
  | x :: l, y :: m, hp, h1, h2 => by
    have e : x = y := by
      rcases List.mem_cons.mp (hp.subset (List.mem_cons_self (a := x) (l := l))) with e | hx
      · exact e
      · rcases List.mem_cons.mp (hp.symm.subset (List.mem_cons_self (a := y) (l := m))) with e | hy
        · exact e.symm
        · exact leW_anti ((List.pairwise_cons.mp h1).1 y hy) ((List.pairwise_cons.mp h2).1 x hx)
    subst e
    rw [leW_unique l m hp.cons_inv (List.pairwise_cons.mp h1).2 (List.pairwise_cons.mp h2).2]
/-- sorting hangs on what is in it alone -/
theorem sortW_same {l m : List (List Str)} (h : l.Perm m) : sortW l = sortW m := leW_unique _ _ (((sortW_perm l).trans h).trans (sortW_perm m).symm) (sortW_le l) (sortW_le m)
/-! ### what a tuple says -/
def wordsOf (h : Heap) : Value → List Str
  | .ref b => match h.get? b with
    | some o => match o.data with
      | .seq xs _ => xs.toList.map wordV
      | _ => []
    | none => []
  | _ => []
section
variable {P : Program} {w : World} {A : Around} {E : Value → Shared → Prop} {s : Shared}
theorem items_words {k : List Str} {vs : List Value} (h : ItemsAre (strKind P w) k vs) : vs.map wordV = k := by
  induction h with
  | nil => rfl
  | @cons z u ks vs h1 _ ih =>
    obtain ⟨t, q⟩ := Value.isStrOf_shape h1
    rw [List.map_cons, ih, q]
    rfl
theorem wordsOf_w {h : Heap} {k : List Str} {b : Addr} (x : IsW P w h k b) : wordsOf h (.ref b) = k := by
  obtain ⟨o, its, n, ho, _, hd, hi⟩ := x
  unfold wordsOf
  simp only [ho, hd]
  exact items_words hi
theorem keyIts {k : List Str} {vs : List Value} (h : ItemsAre (strKind P w) k vs) : ∀ i, tupItems (fun _ => true) i vs = some (k.map itW) := by
  induction h with
  | nil => exact fun i => by unfold tupItems; rfl
  | @cons z u ks vs h1 _ ih =>
    obtain ⟨t, rfl⟩ := Value.isStrOf_shape h1
    intro i
    have e : tupItems (fun _ => true) i (.str z t :: vs) = (tupItems (fun _ => true) (i + 1) vs).map (Sum.inr z.cps.toList :: ·) := by simp [tupItems]
    rw [e, ih (i + 1)]
    rfl
theorem key_w {h : Heap} {k : List Str} {b : Addr} (x : IsW P w h k b) : (tupKind h fun _ => true).keyOf (.ref b) = some (k.map itW) := by
  obtain ⟨o, its, n, ho, _, hd, hi⟩ := x
  show tupKey h (fun _ => true) (.ref b) = _
  unfold tupKey
  simp only [ho, hd]
  exact keyIts hi 0
/-- a ref of a tuple of texts that is not empty -/
def RefW (P : Program) (w : World) (h : Heap) (v : Value) : Prop := ∃ b k, v = .ref b ∧ IsW P w h k b ∧ k ≠ []
theorem tups_of {h : Heap} : ∀ {vs : List Value}, (∀ v ∈ vs, RefW P w h v) → ∃ fs, TupsOf h (fun _ => true) vs fs ∧ fs.length = vs.length
  | [], _ => ⟨[], .nil, rfl⟩
  | v :: vs, x => by
    obtain ⟨fs, q1, q2⟩ := tups_of (vs := vs) fun u hu => x u (List.mem_cons_of_mem _ hu)
    obtain ⟨b, k, rfl, ⟨o, its, n, ho, hc, hd, hi⟩, ne⟩ := x v List.mem_cons_self
    obtain ⟨its⟩ := its
    cases its with
    | nil =>
      cases hi
      exact absurd rfl ne
    | cons f r =>
      obtain ⟨z, t, rfl⟩ := items_w hi f List.mem_cons_self
      exact ⟨_ :: fs, .cons ⟨b, o, _, n, rfl, ho, hc, hd, rfl, fun z => Bool.noConfusion z, fun _ => ⟨_, _, rfl⟩⟩ q1, by rw [List.length_cons, List.length_cons, q2]⟩
theorem refW_old {h h' : Heap} {v : Value} (x : RefW P w h v) (k : ∀ b o, v = .ref b → h.get? b = some o → h'.get? b = some o) : RefW P w h' v := by
  obtain ⟨b, ks, rfl, ⟨o, its, n, ho, r⟩, ne⟩ := x
  exact ⟨b, ks, rfl, ⟨o, its, n, k b o rfl ho, r⟩, ne⟩
theorem refW_words {h h' : Heap} {v : Value} (x : RefW P w h v) (k : ∀ b o, v = .ref b → h.get? b = some o → h'.get? b = some o) : wordsOf h' v = wordsOf h v := by
  obtain ⟨b, ks, rfl, ⟨o, its, n, ho, r⟩, ne⟩ := x
  rw [wordsOf_w (P := P) (w := w) ⟨o, its, n, ho, r⟩, wordsOf_w (P := P) (w := w) ⟨o, its, n, k b o rfl ho, r⟩]
theorem swoW (f : Value → List Str) : SrtO.Swo (fun v u => ltW (f v) (f u)) := ⟨fun _ _ h => ltW_asym h, fun _ _ _ h1 h2 => ltW_tr h1 h2⟩
theorem sortableW {a : Addr} {vs : List Value} (h2 : 2 ≤ vs.length) (x : ∀ v ∈ vs, RefW P w s.heap v) (ha : ∀ v ∈ vs, v ≠ .ref a) : SrtO.SortableO P w A s a vs fun v u => ltW (wordsOf s.heap v) (wordsOf s.heap u) := fun h' keep => by
  have kp : ∀ v ∈ vs, ∀ b o, v = .ref b → s.heap.get? b = some o → h'.get? b = some o := fun v hv b o e g => keep b o (fun z => ha v hv (by rw [e, z])) g
  have x' : ∀ v ∈ vs, RefW P w h' v := fun v hv => refW_old (x v hv) (kp v hv)
  obtain ⟨fs, q1, q2⟩ := tups_of x'
  refine ⟨tuples' true, fun Q E hq => tup_kind (s := { s with heap := h' }) (by rw [q2]; omega) q1 hq, fun p q hp hq => ?_⟩
  have e1 := refW_words (x p.1 hp) (kp p.1 hp); have e2 := refW_words (x q.1 hq) (kp q.1 hq)
  obtain ⟨b1, k1, r1, i1, _⟩ := x' p.1 hp
  obtain ⟨b2, k2, r2, i2, _⟩ := x' q.1 hq
  rw [r1, wordsOf_w i1] at e1
  rw [r2, wordsOf_w i2] at e2
  have z := tup_ltAt (prog := P) (w := w) (s := { s with heap := h' }) (shape := fun _ => true) true A (fun _ _ => False) p.1 q.1 (k1.map itW) (k2.map itW) (Q := fun r s' => s' = { s with heap := h' } ∧ r = SrtO.lt2 (fun v u => ltW (wordsOf s.heap v) (wordsOf s.heap u)) p q)
    (by rw [r1]; exact key_w i1) (by rw [r2]; exact key_w i2) ⟨rfl, by
      show _ = ltW (wordsOf s.heap p.1) (wordsOf s.heap q.1)
      rw [r1, r2, ← e1, ← e2]
      rfl⟩
  exact z
/-- the refs of the tuples -/
def refW (L : List (Addr × List Str)) : List Value := L.map fun q => Value.ref q.1
theorem sortW_raw {a : Addr} {L : List (Addr × List Str)} {Q : Value → Shared → Prop} (R : TwAt P w s.heap a L) (tup : ∀ p ∈ L, IsW P w s.heap p.2 p.1) (ne : ∀ p ∈ L, p.2 ≠ []) (hh : A.handled = none)
    (q : ∀ s' p (out : List Value) (c : Nat), (∀ b o, s.heap.get? b = some o → s'.heap.get? b = some o) → s'.gens = s.gens → s'.os = s.os → s.heap.objs.size ≤ p →
      s'.heap.get? p = some (seqObj "list" out.toArray c) → out.Perm (refW L) → out.Pairwise (fun u v => ltW (wordsOf s.heap v) (wordsOf s.heap u) = false) → Q (.ref p) s') :
    wpAny (model P w) A (call (.builtin "sorted") [.ref a]) Q E s := by
  have few := R.few
  obtain ⟨L', es, ep, t, ⟨o, ho, hex, hd⟩, T, pm0⟩ := R
  have refs : es.toList.map (·.2) = refW L' := by rw [T.ents]; unfold refW; rw [List.map_map]; rfl
  have szl := T.size
  have lw := T.few
  refine Calls.call_function_entry kind_sorted plain_sorted entry_sorted (args_sorted1 _) ?_
  unfold Builtin.«sorted»; refine wpAny_bind (m := checkCount "sorted" 1 1 _) (wpAny_pure (wpAny_bind (collect_set (A := A.in1) hh ⟨o, ho, hex.1, hd⟩ T.fits (by unfold scanBound; omega) T.tab.ris T.led fun s1 vs k1 z1 g1 o1 pm => ?_)))
  rw [refs] at pm
  have pL : vs.Perm (refW L) := pm.trans (by unfold refW; exact pm0.map _)
  have vl : vs.length = L.length := by
    rw [pL.length_eq]
    unfold refW
    rw [List.length_map]
  have rw0 : ∀ v ∈ vs, RefW P w s.heap v := fun v hv => by
    obtain ⟨p, hp, rfl⟩ := List.mem_map.mp (pL.mem_iff.mp hv)
    exact ⟨p.1, p.2, rfl, tup p hp, ne p hp⟩
  refine wpAny_bind (wpAny_newList ?_ (by rw [vl, sizeLine_eq]; omega))
  have at1 : (s1.heap.push (seqObj "list" vs.toArray 0)).get? s1.heap.objs.size = some (seqObj "list" vs.toArray 0) := Heap.get?_push_size _ rfl
  have keep : ∀ b u, s.heap.get? b = some u → b ≠ s1.heap.objs.size ∧ (s1.heap.push (seqObj "list" vs.toArray 0)).get? b = some u := fun b u e => by
    have e1 := k1 b u e
    exact ⟨Nat.ne_of_lt (Heap.lt_size e1), Heap.get?_push_of_some _ e1⟩
  have rw1 : ∀ v ∈ vs, RefW P w (s1.heap.push (seqObj "list" vs.toArray 0)) v := fun v hv => refW_old (rw0 v hv) fun b o _ g => (keep b o g).2
  have same : ∀ v ∈ vs, wordsOf (s1.heap.push (seqObj "list" vs.toArray 0)) v = wordsOf s.heap v := fun v hv => refW_words (rw0 v hv) fun b o _ g => (keep b o g).2
  refine wpAny_bind (wpAny_holding (wpAny_call_entry slot_list_sort ⟨_, at1, rfl⟩ entry_list_sort (SrtO.list_sort_ord (swoW (wordsOf (s1.heap.push (seqObj "list" vs.toArray 0)))) at1 (by rw [vl, sizeLine_eq]; omega) (fun h2 => sortableW (s := { s1 with heap := s1.heap.push (seqObj "list" vs.toArray 0) }) h2 rw1 fun v hv z => ?_) fun out h1 h2 => ⟨_, rfl, ?_⟩) (args_list_sort _)))
  · obtain ⟨b, k, e, ⟨u, its, n, hu, _⟩, _⟩ := rw0 v hv
    rw [e] at z
    cases z
    exact (keep _ u hu).1 rfl
  · obtain ⟨c, hc⟩ := sortedHeap_at (vs := vs) (out := out.toArray) at1
    refine wpAny_pure ⟨_, rfl, q _ s1.heap.objs.size out c (fun b u e => ?_) g1 o1 z1 hc (h2.perm.trans pL) ?_⟩
    · have e1 := k1 b u e
      have lt := Heap.lt_size e1
      show (sortedHeap (s1.heap.push (seqObj "list" vs.toArray 0)) s1.heap.objs.size vs out.toArray).get? b = some u
      rw [sortedHeap_old (Nat.ne_of_lt lt) (by rw [size_push']; exact Nat.lt_succ_of_lt lt)]
      exact Heap.get?_push_of_some _ e1
    · refine List.Pairwise.imp_of_mem (fun {u v} hu hv h => ?_) h1
      rw [← same u (h2.perm.mem_iff.mp hu), ← same v (h2.perm.mem_iff.mp hv)]
      exact h
end
end Hk
/-! Hk101: set(list of tuples of texts); sorted(set(..)) of such. -/
namespace Hk
open PySem PySem.Spec PyProof.Rows L2 Evl
def SetTW (P : Program) (w : World) (a : Addr) (L : List (Addr × List Str)) : HO := .ext fun h => TwAt P w h a L
theorem setTW_new {P : Program} {w : World} {H : Hp} {h : Heap} {a : Addr} {L : List (Addr × List Str)} (t : TwAt P w h a L) : ObjOk P w H h a (SetTW P w a L) := by
  have ⟨_, _, _, _, ⟨o, ho, _⟩, _⟩ := t
  exact ⟨t, ⟨o, ho⟩, fun _ _ p k => p.old k⟩
theorem setTW_code {P : Program} {w : World} {a : Addr} {l : List (Addr × List Str)} (c : Addr) (q : Str) : SetTW P w a l ≠ LamX.CodeO c q := fun e => by
  unfold SetTW LamX.CodeO at e
  have e := HO.ext.inj e
  have g : ∀ b, (Heap.mk (Array.replicate (c + 1) ({ cls := .none, data := .fields #[.none, .str q 0] } : Obj)) {}).get? b = if b < c + 1 then some { cls := .none, data := .fields #[.none, .str q 0] } else none := fun b => by
    unfold Heap.get?
    simp only [Array.getElem?_replicate]
    by_cases hb : b < c + 1
    · rw [if_pos hb]
    · rw [if_neg hb]
  have z := (congrFun e (Heap.mk (Array.replicate (c + 1) { cls := .none, data := .fields #[.none, .str q 0] }) {})).mpr ⟨_, _, 0, (g c).trans (if_pos (Nat.lt_succ_self c)), rfl, rfl⟩
  obtain ⟨_, _, _, _, ⟨o, h1, _, h3⟩, _⟩ := z
  rw [g a] at h1
  by_cases ha : a < c + 1
  · rw [if_pos ha] at h1
    cases h1
    cases h3
  · rw [if_neg ha] at h1
    cases h1
/-- what is met of a list -/
structure MetW (ks : List (Addr × List Str)) (i : Nat) (L : List (Addr × List Str)) : Prop where
  sub : ∀ p ∈ L, p ∈ ks
  all : ∀ j, j < i → ∀ p, ks[j]? = some p → p.2 ∈ L.map (·.2)
theorem putW_keys {x : Addr × List Str} {L : List (Addr × List Str)} {k : List Str} : k ∈ (putW x L).map (·.2) ↔ k = x.2 ∨ k ∈ L.map (·.2) := by
  unfold putW
  split
  · rename_i h
    exact ⟨.inr, fun z => z.elim (fun e => e ▸ h) id⟩
  · rw [List.map_cons, List.mem_cons]
theorem putW_mem {x p : Addr × List Str} {L : List (Addr × List Str)} (h : p ∈ putW x L) : p = x ∨ p ∈ L := by
  unfold putW at h
  split at h
  · exact .inr h
  · exact List.mem_cons.mp h
theorem MetW.put {ks L : List (Addr × List Str)} {i : Nat} {x : Addr × List Str} (m : MetW ks i L) (h : ks[i]? = some x) : MetW ks (i + 1) (putW x L) := by
  refine ⟨fun p hp => (putW_mem hp).elim (fun e => e ▸ List.mem_of_getElem? h) (m.sub p), fun j hj p hp => putW_keys.mpr ?_⟩
  rcases Nat.lt_or_ge j i with z | z
  · exact .inr (m.all j z p hp)
  · have : j = i := by omega
    subst this
    rw [h] at hp
    cases hp
    exact .inl rfl
theorem met_room {ks L : List (Addr × List Str)} {k : List Str} (sub : ∀ p ∈ L, p ∈ ks) (nd : (L.map (·.2)).Nodup) (hk : k ∈ ks.map (·.2)) (dist : (dedu (ks.map (·.2))).length ≤ 4) (new : k ∉ L.map (·.2)) : L.length < 4 := by
  have n1 : (k :: L.map (·.2)).Nodup := List.nodup_cons.mpr ⟨new, nd⟩
  have := n1.length_le_of_subset (l₂ := dedu (ks.map (·.2))) fun x hx => by
    rcases List.mem_cons.mp hx with rfl | hx
    · exact dedu_mem.mpr hk
    · obtain ⟨p, hp, rfl⟩ := List.mem_map.mp hx
      exact dedu_mem.mpr (List.mem_map.mpr ⟨p, sub p hp, rfl⟩)
  rw [List.length_cons, List.length_map] at this
  omega
section
variable {P : Program} {w : World} {A : Around}
theorem fillW_raw {R : Result → Shared → Prop} {I : Addr} {fp wr : List Addr} {G : Array GenState → Array GenState → Prop} {n : Nat} {T : Nat → Value → Prop} {St : Nat → Shared → Prop} (W : WalksS P w A.in1 I fp wr G n T St) {S : Addr} (away : S ∉ fp)
    {ks : List (Addr × List Str)} (hv : ∀ i x, T i x → ∃ p, ks[i]? = some p ∧ x = .ref p.1) (dist : (dedu (ks.map (·.2))).length ≤ 4) {h0 : Heap} (hk : ∀ p ∈ ks, IsW P w h0 p.2 p.1) (nS : h0.get? S = none) (nw : ∀ b ∈ wr, h0.get? b = none) (hu : A.in1.units < cLine) :
    ∀ (left i : Nat) (s : Shared), n = i + left → St i s → (∀ b o, h0.get? b = some o → s.heap.get? b = some o) → (∃ L, TwAt P w s.heap S L ∧ MetW ks i L) →
      (∀ s', Moved (S :: wr) G s s' → (∃ L, TwAt P w s'.heap S L ∧ MetW ks n L) → R (.ok (.ret .none)) s') → codeAny (model P w) A (.builtin "set.update.loop" ⟨[.ref S, .ref I], []⟩) R s
  | 0, i, s, hn, hs, _, ⟨L, hS, m⟩, q => by
    cases hn
    have out : S ∉ wr := fun z => away (W.sub _ z)
    refine codeAny_builtin F.entry_set_update_loop ?_
    rw [Around.under_plainId F.plain_set_update_loop _]
    show wpAny _ A.in1 (pyNext (.ref I) >>= _) _ _ s
    refine wpAny_bind (W.done s _ _ hs fun s' hm => ?_)
    show wpAny _ A.in1 (ret Value.none) _ _ s'
    exact wpAny_pure (q s' (hm.mono fun _ z => List.mem_cons_of_mem _ z) ⟨L, hS.old fun o e => hm.heap S _ out e, m⟩)
  | left + 1, i, s, hn, hs, hkp, ⟨L, hS, m⟩, q => by
    have lt : i < n := by omega
    have out : S ∉ wr := fun z => away (W.sub _ z)
    refine codeAny_builtin F.entry_set_update_loop ?_
    rw [Around.under_plainId F.plain_set_update_loop _]
    show wpAny _ A.in1 (pyNext (.ref I) >>= _) _ _ s
    refine wpAny_bind (W.item i s _ _ lt hs fun x s1 hx hs1 hm => ?_)
    obtain ⟨p, hp, rfl⟩ := hv i x hx
    show wpAny _ A.in1 (holding [Value.ref p.1] (setAdd S (.ref p.1)) >>= _) _ _ s1
    have k1 : ∀ b o, h0.get? b = some o → s1.heap.get? b = some o := fun b o e => hm.heap b o (fun z => by rw [nw b z] at e; cases e) (hkp b o e)
    have S1 := hS.old fun o e => hm.heap S o out e
    have pm := List.mem_of_getElem? hp
    refine wpAny_bind (wpAny_holding (inW_raw S1 (fun z hz => isW_old (hk z (m.sub z hz)) k1) (isW_old (hk p pm) k1) hu (met_room m.sub hS.nd (List.mem_map.mpr ⟨p, pm, rfl⟩) dist) fun b h' tk ht sb S2 => ?_))
    refine wpAny_pure ⟨plainId_quiet F.plain_set_update_loop _, fillW_raw W away hv dist hk nS nw hu left (i + 1) _ (by omega) (W.frame _ s1 _ _ hs1 ht fun b hb o e => ?_) (fun b o e => ?_) ⟨_, S2, m.put hp⟩ fun s2 hm2 hS3 => ?_⟩
    · rw [sb.2 b (fun z : b = S => away (by rw [← z]; exact hb))]; exact e
    · exact (sb.2 b (fun z => by rw [z, nS] at e; cases e)).trans (k1 b o e)
    · refine q s2 (Moved.trans W.gtrans ((hm.mono fun _ z => List.mem_cons_of_mem _ z).then_heap ht fun b o hb e => ?_) hm2) hS3
      rw [sb.2 b (fun z : b = S => hb (by rw [z]; exact List.mem_cons_self))]; exact e
section
variable {E : Value → Shared → Prop} {s : Shared}
theorem setOfW_raw {l : Addr} {items : Array Value} {ks : List (Addr × List Str)} {Q : Value → Shared → Prop} (hh : A.handled = none) (hl : s.heap.IsList l items) (hi : items.toList = refW ks) (hk : ∀ p ∈ ks, IsW P w s.heap p.2 p.1) (dist : (dedu (ks.map (·.2))).length ≤ 4) (hu : A.units + 3 < cLine)
    (q : ∀ (h' : Heap) (tk : Nat) L, TwAt P w h' s.heap.objs.size L → MetW ks ks.length L → (∀ b o, s.heap.get? b = some o → h'.get? b = some o) → Q (.ref s.heap.objs.size) { s with heap := h', toks := tk }) :
    wpAny (model P w) A (call (.type "set") [.ref l]) Q E s := by
  have isz : items.size = ks.length := by
    rw [← Array.length_toList, hi]
    exact List.length_map _
  obtain ⟨c, tl, mro⟩ := F.called_set.mro
  have made := F.called_set.made; have sub := F.called_set.sub
  refine wpAny_call (codeAny_of_tree ?_); show wpAny _ _ (callAny (.type "set") _) _ _ _
  refine wpAny_pure ⟨Code.quiet_builtin _ (by decide +kernel), codeAny_builtin F.entry_type_call ?_⟩
  rw [Around.under_plain (weight_type_call_type "set" [.ref l] []) rfl]
  have f1 := F.called_set.notType; have f2 := F.called_set.canCreate
  have f3 := F.typeCall_set_1 (.ref l)
  repeat (any_goals (first | assumption | wp_step))
  refine codeAny_mono (code_set_led1 (.ref l) (E := E) (Q₁ := fun z t => z = .ref s.heap.objs.size ∧ t = { s with heap := s.heap.push (fsO w) }) ⟨rfl, rfl⟩) fun r t hr => ?_
  cases r with
  | error e => exact hr
  | ok fl =>
    cases fl with
    | ret z =>
      obtain ⟨rfl, rfl⟩ := hr
      have g0 : (s.heap.push (fsO w)).get? s.heap.objs.size = some (fsO w) := Heap.get?_push_size _ rfl
      have ty : Shared.TypeIs { s with heap := s.heap.push (fsO w) } (.ref s.heap.objs.size) "set" := ⟨_, g0, rfl⟩
      have f4 := F.called_set.init.lookup
      have f5 := F.called_set.init.bind (.ref s.heap.objs.size)
      repeat (any_goals (first | assumption | wp_step))
      refine codeAny_mono (codeAny_call_builtin (R := wants (fun r t => r = .none ∧ ∃ h' tk L, t = { s with heap := h', toks := tk } ∧ TwAt P w h' s.heap.objs.size L ∧ MetW ks ks.length L ∧ (∀ b o, s.heap.get? b = some o → h'.get? b = some o)) E) F.called_set.init.plain F.entry_set_init (check_set_init_1 ty ?_)) fun r2 t2 hr2 => ?_
      · obtain ⟨ol, ho, hc, nl, hd⟩ := hl
        obtain ⟨cls0, dict0, data0, slots0⟩ := ol
        simp only at hc hd
        subst hc; subst hd
        have ho2 : (s.heap.push (fsO w)).get? l = some { cls := .type "list", dict := dict0, data := .seq items nl, slots := slots0 } := Heap.get?_push_of_some _ ho
        have f6 := F.sub_list_set; have f7 := F.sub_list_frozenset
        have f8 : (Value.type "list" == Value.type "dict") = false := by decide
        have l1 : (s.heap.push (fsO w)).IsList l items := ⟨_, ho2, rfl, nl, rfl⟩
        unfold Builtin.«set.__init__» noKeywords Builtin.Frozenset.updateFrom
        generalize hP : pyIter = PI; wp_walk; subst hP
        refine wpAny_pyIter_list l1 (wpAny_bind (wpAny_runValue ?_))
        have lS : l < s.heap.objs.size := Heap.lt_size ho
        have h3 : A.in1.in1.in1.handled = none := by simp [hh]
        have sz : (s.heap.push (fsO w)).objs.size = s.heap.objs.size + 1 := Heap.size_push ..
        have nI : l ≠ (s.heap.push (fsO w)).objs.size := fun z => Nat.ne_of_lt (Nat.lt_succ_of_lt lS) (z.trans sz)
        have out : s.heap.objs.size ∉ [(s.heap.push (fsO w)).objs.size, l] := by
          simp only [List.mem_cons, List.not_mem_nil, or_false, not_or]
          exact ⟨fun z => Nat.ne_of_lt (Nat.lt_succ_self _) (z.trans sz), fun z => Nat.ne_of_lt lS z.symm⟩
        have away : ∀ b, s.heap.objs.size ≤ b → s.heap.get? b = none := fun b hb => by
          cases z : s.heap.get? b with
          | none => rfl
          | some o => exact absurd (Heap.lt_size z) (Nat.not_lt.mpr hb)
        have at0 : ∀ (i : Nat) (x : Value), items[i]? = some x → ∃ p, ks[i]? = some p ∧ x = .ref p.1 := fun i x hx => by
          rw [← Array.getElem?_toList, hi] at hx
          unfold refW at hx
          rw [List.getElem?_map] at hx
          cases z : ks[i]? with
          | none => rw [z] at hx; cases hx
          | some p => rw [z] at hx; exact ⟨p, rfl, (Option.some.inj hx).symm⟩
        refine fillW_raw ((Walks.list h3 _ l nI items).toS) out at0 dist hk (away _ (Nat.le_refl _)) (fun b hb => away b ?_) hu items.size 0 _ (by omega) ⟨⟨_, Heap.get?_push_size _ rfl, rfl, rfl⟩, (l1.push _)⟩ (fun b o e => Heap.get?_push_of_some _ (Heap.get?_push_of_some _ e)) ⟨[], freshW (Heap.get?_push_of_some _ g0), fun p hp => absurd hp List.not_mem_nil, fun j hj => absurd hj (Nat.not_lt_zero _)⟩ ?hB
        · rw [List.mem_singleton.mp hb, sz]
          exact Nat.le_succ _
        case hB =>
          intro s' hm hS
          obtain ⟨L, hS, m⟩ := hS
          obtain ⟨h', g2, d2, tk2, os2⟩ := s'
          cases (show g2 = s.gens from hm.gens)
          cases (show d2 = s.drawn from hm.drawn)
          cases (show os2 = s.os from hm.os)
          show wpAny _ _ _ _ _ _
          refine wpAny_pure ?_
          show wpAny _ _ (ret Value.none) _ _ _
          rw [isz] at m
          refine wpAny_pure ⟨rfl, h', tk2, L, rfl, hS, m, fun b o e => ?_⟩
          have lb : b < s.heap.objs.size := Heap.lt_size e
          refine hm.heap b o ?_ (Heap.get?_push_of_some _ (Heap.get?_push_of_some _ e))
          simp only [List.mem_cons, List.not_mem_nil, or_false, not_or]
          exact ⟨fun z => Nat.ne_of_lt lb z, fun z => Nat.ne_of_lt (Nat.lt_succ_of_lt lb) (z.trans sz)⟩
      · cases r2 with
        | error e => exact hr2
        | ok fl2 =>
          cases fl2 with
          | ret r =>
            obtain ⟨rfl, h', tk, L, rfl, hS, m, hk'⟩ := hr2
            repeat (any_goals (first | assumption | wp_step))
            exact q _ _ _ hS m hk'
          | _ => exact hr2.elim
    | _ => exact hr.elim
end
end
/-! ### the rules -/
theorem items_wv {P : Program} {w : World} : ∀ {k : List Str} {us : List Value}, Vals (k.map V.str) us → ItemsAre (strKind P w) k us
  | [], _, .nil => .nil
  | z :: k, _, .cons r t => by
    obtain ⟨u, rfl⟩ := r
    exact .cons (strKind_is P w z u) (items_wv t)
theorem refs_w : ∀ {ks : List (Addr × List Str)} {us : List Value}, Vals (ks.map fun p => V.ref p.1) us → us = refW ks
  | [], _, .nil => rfl
  | p :: ks, _, .cons r t => by
    cases r
    rw [refs_w t]
    rfl
section
variable {X : Cx}
theorem isW_inv {pins : List (Addr × Obj)} {σ : L2.St} {H : Hp} {s : Shared} {b : Addr} {k : List Str} (I : Inv X pins σ H s) (h : SqT X.K H b (k.map V.str)) : IsW X.prog X.w s.heap k b := by
  obtain ⟨its, r, ⟨o, ho, hc, n, hd⟩, _⟩ := I.tuple h
  exact ⟨o, its.toArray, n, ho, hc, hd, by simpa using items_wv r⟩
theorem setTW_get {pins : List (Addr × Obj)} {σ : L2.St} {H : Hp} {s : Shared} {a : Addr} {L : List (Addr × List Str)} (I : Inv X pins σ H s) (ha : H a = some (SetTW X.prog X.w a L)) : TwAt X.prog X.w s.heap a L := (I.hok a _ ha).1
/-- set(xs), xs a list of tuples of texts, at most four unlike ones -/
def rSetOfW (K : PySem.W.Frag) (P : Program) (w : World) : List V → Hp → VK → Prop := fun xs H Q => ∃ (l : Addr) (ks : List (Addr × List Str)), xs = [V.ref l] ∧ SqL K H l (ks.map fun p => V.ref p.1) ∧ (∀ p ∈ ks, SqT K H p.1 (p.2.map V.str)) ∧ (dedu (ks.map (·.2))).length ≤ 4 ∧
  ∀ a L, H a = none → (∀ p ∈ L, p ∈ ks) → (∀ p ∈ ks, p.2 ∈ L.map (·.2)) → (L.map (·.2)).Nodup → Q (.ref a) (upd H a (SetTW P w a L))
theorem cr_setOfW (hc : X.calm = true) (hu : X.A.units + 64 < cLine) : CallR X (.type "set") (rSetOfW X.K X.prog X.w) := by
  intro pins s σ H xs us Q I r h
  obtain ⟨l, ks, rfl, hl, hk, dist, q⟩ := h
  rw [Vals.ref1 r]
  obtain ⟨its, rv, pl, _⟩ := I.list hl
  have hn : H s.heap.objs.size = none := I.hok.fresh (Nat.le_refl _)
  refine setOfW_raw (P := X.prog) (w := X.w) (ks := ks) (I.ok.hd hc) pl.isList (by simpa using refs_w rv) (fun p hp => isW_inv I (hk p hp)) dist (by omega) fun h' tk L t m k => ?_
  refine ⟨.ref s.heap.objs.size, upd H s.heap.objs.size (SetTW X.prog X.w s.heap.objs.size L), I.laid (t' := tk) k (Nat.le_refl _) (setTW_new t), rfl, q _ L hn m.sub (fun p hp => ?_) t.nd⟩
  obtain ⟨j, hj, e⟩ := List.getElem_of_mem hp
  exact m.all j hj p (by rw [List.getElem?_eq_getElem hj, e])
def TupW (K : PySem.W.Frag) (H : Hp) (v : V) (k : List Str) : Prop := ∃ a, v = V.ref a ∧ SqT K H a (k.map V.str)
/-- sorted(set of tuples of texts) -/
def rSortW (K : PySem.W.Frag) (P : Program) (w : World) : List V → Hp → VK → Prop := fun vs H Q => ∃ (a : Addr) (L : List (Addr × List Str)), vs = [V.ref a] ∧ H a = some (SetTW P w a L) ∧ (∀ p ∈ L, SqT K H p.1 (p.2.map V.str)) ∧ (∀ p ∈ L, p.2 ≠ []) ∧
  ∀ (ys : List V) (p : Addr), (L.map (·.2)).Nodup → ys.Perm (L.map fun q => V.ref q.1) → ys.Pairwise (fun x y => ∀ n m, TupW K H x n → TupW K H y m → ltW m n = false) → H p = none → Q (.ref p) (upd H p (.lst ys))
theorem cr_sortW (hc : X.calm = true) : CallR X (.builtin "sorted") (rSortW X.K X.prog X.w) := by
  intro pins s σ H vs us Q I r h
  obtain ⟨a, L, rfl, ha, hk, ne, q⟩ := h
  have R := setTW_get I ha
  rw [Vals.ref1 r]
  refine sortW_raw R (fun p hp => isW_inv I (hk p hp)) ne (I.ok.hd hc) fun s' p out c k g o hp hg pm pw => ?_
  have e3 : ∀ u ∈ out, ∃ b, u = Value.ref b := fun u hu => by
    obtain ⟨z, _, rfl⟩ := List.mem_map.mp (pm.mem_iff.mp hu)
    exact ⟨_, rfl⟩
  have hperm : (out.map bkV).Perm (L.map fun q => V.ref q.1) := by
    have := pm.map bkV
    unfold refW at this
    rw [List.map_map] at this
    exact this
  have hlen : (out.map bkV).length ≤ sizeLine := by
    rw [hperm.length_eq, List.length_map, sizeLine_eq]
    have := R.few
    omega
  have hn : H p = none := I.hok.fresh hp
  have J : L2.Inv X pins σ (upd H p (.lst (out.map bkV))) { s with heap := s'.heap, gens := s'.gens, drawn := s'.drawn, toks := s'.toks } :=
    I.call (ch := []) (Un.laid k hp hn) (I.hok.laid k hp ⟨hlen, out, c, bkV_vals e3, hg⟩) (by rw [g]; exact I.bare) (fun _ z => nomatch z)
  have e : s' = { s with heap := s'.heap, gens := s'.gens, drawn := s'.drawn, toks := s'.toks } := by cases s'; cases s; cases o; rfl
  rw [e]
  refine ⟨.ref p, _, J, rfl, q _ p R.nd hperm ?_ hn⟩
  rw [List.pairwise_map]
  refine List.Pairwise.imp (fun {u v} huv n m ⟨t1, et, ht⟩ ⟨t2, et', ht'⟩ => ?_) pw
  have i1 : wordsOf s.heap u = n := by
    rw [bkV_ref et]
    exact wordsOf_w (isW_inv I ht)
  have i2 : wordsOf s.heap v = m := by
    rw [bkV_ref et']
    exact wordsOf_w (isW_inv I ht')
  rw [← i1, ← i2]
  exact huv
end
/-! ### data -/
def txT (l : List Str) : Dt := .tup (l.map .str)
def txsT : List Dt → Option (List (List Str))
  | [] => some []
  | .tup ds :: es => match strsD ds, txsT es with
    | some l, some r => some (l :: r)
    | _, _ => none
  | _ => none
theorem txsT_ok : ∀ {ds : List Dt} {ls : List (List Str)}, txsT ds = some ls → ds = ls.map txT
  | [], ls, h => by
    cases h
    rfl
  | d :: es, ls, h => by
    cases d with
    | tup ds =>
      have h : (match strsD ds, txsT es with | some l, some r => some (l :: r) | _, _ => none) = some ls := h
      split at h
      · rename_i l r h1 h2
        cases h
        rw [strsD_ok h1, txsT_ok h2]
        rfl
      · cases h
    | _ => cases h
section
variable {K : PySem.W.Frag} {Hd H : Hp}
theorem txT_at (ex : ExS Hd H) {l : List Str} {v : V} (h : Rp K Hd (txT l) v) : TupW K H v l := by
  obtain ⟨a, xs, e, h1, h2⟩ := h
  have := strs_rp h2
  subst this
  exact ⟨a, e, exs_t ex h1⟩
theorem rpw_perm {ys us : List V} (hp : ys.Perm us) : ∀ {ls : List (List Str)}, RpA K Hd (ls.map txT) us → ∃ ms : List (List Str), ms.Perm ls ∧ RpA K Hd (ms.map txT) ys := by
  induction hp with
  | nil => exact fun {ls} h => ⟨ls, List.Perm.refl _, h⟩
  | cons x hp ih =>
    intro ls h
    cases ls with
    | nil => cases h
    | cons l ls =>
      obtain ⟨y, r, e, h1, h2⟩ := h
      cases e
      obtain ⟨ms, q1, q2⟩ := ih h2
      exact ⟨l :: ms, q1.cons l, x, _, rfl, h1, q2⟩
  | swap x y l =>
    intro ls h
    match ls, h with
    | [], h => cases h
    | [_], ⟨_, _, e, _, h2⟩ =>
      cases e
      cases h2
    | l1 :: l2 :: ls, ⟨_, _, e, h1, _, _, e2, h2, h3⟩ =>
      cases e
      cases e2
      exact ⟨l2 :: l1 :: ls, List.Perm.swap _ _ _, _, _, rfl, h2, _, _, rfl, h1, h3⟩
  | trans _ _ ih1 ih2 =>
    intro ls h
    obtain ⟨ms, q1, q2⟩ := ih2 h
    obtain ⟨ns, q3, q4⟩ := ih1 q2
    exact ⟨ns, q3.trans q1, q4⟩
theorem rpw_mem : ∀ {ls : List (List Str)} {vs : List V}, RpA K Hd (ls.map txT) vs → ∀ l ∈ ls, ∃ v ∈ vs, Rp K Hd (txT l) v
  | [], vs, _, l, hl => by cases hl
  | m :: ls, vs, ⟨v, r, e, h1, h2⟩, l, hl => by
    subst e
    rcases List.mem_cons.mp hl with rfl | hl
    · exact ⟨v, List.mem_cons_self, h1⟩
    · obtain ⟨u, q1, q2⟩ := rpw_mem h2 l hl
      exact ⟨u, List.mem_cons_of_mem _ q1, q2⟩
theorem rpw_le (ex : ExS Hd H) : ∀ {ls : List (List Str)} {vs : List V}, RpA K Hd (ls.map txT) vs → vs.Pairwise (fun x y => ∀ n m, TupW K H x n → TupW K H y m → ltW m n = false) → ls.Pairwise (fun a b => leW a b = true)
  | [], vs, _, _ => List.Pairwise.nil
  | l :: ls, vs, ⟨v, r, e, h1, h2⟩, hp => by
    subst e
    obtain ⟨p1, p2⟩ := List.pairwise_cons.mp hp
    refine List.pairwise_cons.mpr ⟨fun m hm => ?_, rpw_le ex h2 p2⟩
    obtain ⟨u, q1, q2⟩ := rpw_mem h2 m hm
    exact leW_iff.mpr (p1 u q1 l m (txT_at ex h1) (txT_at ex q2))
end
theorem rpw_ks {K : PySem.W.Frag} {H : Hp} : ∀ {ls : List (List Str)} {vs : List V}, RpA K H (ls.map txT) vs → ∃ ks : List (Addr × List Str), vs = ks.map (fun p => V.ref p.1) ∧ ls = ks.map (·.2) ∧ ∀ p ∈ ks, Rp K H (txT p.2) (V.ref p.1)
  | [], vs, h => by
    rw [show vs = [] from h]
    exact ⟨[], rfl, rfl, fun _ z => absurd z List.not_mem_nil⟩
  | l :: ls, vs, h => by
    obtain ⟨v, r, rfl, h1, h2⟩ := h
    obtain ⟨ks, rfl, rfl, h3⟩ := rpw_ks h2
    have ⟨b, xs, e, _, _⟩ := h1
    subst e
    exact ⟨(b, l) :: ks, rfl, rfl, fun p hp => (List.mem_cons.mp hp).elim (fun z => z ▸ h1) (h3 p)⟩
theorem rpw_of {K : PySem.W.Frag} {H : Hp} : ∀ (L : List (Addr × List Str)), (∀ p ∈ L, Rp K H (txT p.2) (V.ref p.1)) → RpA K H ((L.map (·.2)).map txT) (L.map fun p => V.ref p.1)
  | [], _ => rfl
  | p :: L, h => ⟨_, _, rfl, h p List.mem_cons_self, rpw_of L fun q hq => h q (List.mem_cons_of_mem _ hq)⟩
/-- sorted(set(xs)), xs a list of tuples of texts -/
def sortSWM (m : M Vl) : M Vl := fun E => match m E with
  | some (r, E1) => match (lstS E1.ce r).bind txsT with
    | some ls => if (dedu ls).length ≤ 4 ∧ (∀ l ∈ ls, l ≠ []) then newL ((sortW (dedu ls)).map txT) ⟨E1.sl, E1.ce ++ [.dead]⟩ else none
    | none => none
  | none => none
theorem em_sortSW {K : PySem.W.Frag} {P : Program} {w : World} {ta : TE} {ma : M Vl} (h : EM K ta ma) : EM K (tCB (rSortW K P w) (tCons (tCB (rSetOfW K P w) (tCons ta tNil)) tNil)) (sortSWM ma) := fun {μ Hd H σ E r E'} R e Q q => by
  unfold sortSWM at e
  split at e
  · rename_i r1 E1 q1
    split at e
    · rename_i ls q2
      split at e
      · rename_i hl
        obtain ⟨hl4, hne⟩ := hl
        obtain ⟨ds, q3, q4⟩ := Option.bind_eq_some_iff.mp q2
        have := txsT_ok q4
        subst this
        refine h R q1 _ fun μ1 Hd1 H1 v g1 R1 v1 => ?_
        obtain ⟨a, vs, rfl, sq, ra⟩ := lstS_ok R1.wo v1 q3
        obtain ⟨ks, rfl, rfl, hk⟩ := rpw_ks ra
        have tq : ∀ p ∈ ks, SqT K H1 p.1 (p.2.map V.str) := fun p hp => by
          obtain ⟨b, e, hb⟩ := txT_at R1.wo.ex (hk p hp)
          cases e
          exact hb
        refine ⟨a, ks, rfl, sq, tq, hl4, fun D L hD hL1 hL2 _ => ?_⟩
        obtain ⟨g2, R2, _⟩ := R1.newX (c := .pin (SetTW P w D L)) (o := SetTW P w D L) hD ⟨rfl, fun c q => setTW_code c q, fun _ => nofun⟩
        have hkL : ∀ p ∈ L, Rp K Hd1 (txT p.2) (V.ref p.1) := fun p hp => hk p (hL1 p hp)
        refine ⟨D, L, rfl, if_pos rfl, fun p hp => ?_, fun p hp => hne p.2 (List.mem_map.mpr ⟨p, hL1 p hp, rfl⟩), fun ys p nd hp hs hn => ?_⟩
        · obtain ⟨b, e, hb⟩ := txT_at R2.wo.ex (hkL p hp)
          cases e
          exact hb
        · obtain ⟨ms, z1, z2⟩ := rpw_perm hp (rpw_of L hkL)
          have em : ms = sortW (dedu (ks.map (·.2))) := by
            refine leW_unique _ _ ?_ (rpw_le R2.wo.ex z2 hs) (sortW_le _)
            refine z1.trans ((perm_both nd (dedu_nd _) fun x => ?_).trans (sortW_perm _).symm)
            rw [dedu_mem]
            constructor
            · intro hx
              obtain ⟨p, hp, rfl⟩ := List.mem_map.mp hx
              exact List.mem_map.mpr ⟨p, hL1 p hp, rfl⟩
            · intro hx
              obtain ⟨p, hp, rfl⟩ := List.mem_map.mp hx
              exact hL2 p hp
          rw [em] at z2
          obtain ⟨g5, R5, r5⟩ := newL_ok (rl_dead R2) z2 e hn
          exact q _ _ _ _ ((g1.trans g2).trans g5) R5 r5
      · cases e
    · cases e
  · cases e
section
variable {X : Cx} {a : Expr} {ta : TE} {ma : M Vl} {p q cpos spos : Pos}
theorem xsortSW (hm : X.mg "sorted" = none) (hv : bootBuiltins "sorted" = some (.builtin "sorted")) (hm2 : X.mg "set" = none) (hv2 : bootBuiltins "set" = some (.type "set")) (hc : X.calm = true) (hu : X.A.units + 64 < cLine) (ha : Ex_ X a ta ma)
    (hG : Gl X "sorted" := by rfl) (hG2 : Gl X "set" := by rfl) (st : starEach [a] X.env = (false, eval a X.env) :: starEach [] X.env := by rfl) (pl : (backTo spos (starEach [] X.env)).any (·.1) = false := by rfl)
    (hst : starEach [Expr.Call (.Name "set" p) [a] [] spos] X.env = (false, eval (Expr.Call (.Name "set" p) [a] [] spos) X.env) :: starEach [] X.env := by rfl) (hpl : (backTo cpos (starEach [] X.env)).any (·.1) = false := by rfl) :
    Ex_ X (.Call (.Name "sorted" q) [.Call (.Name "set" p) [a] [] spos] [] cpos) (tCB (rSortW X.K X.prog X.w) (tCons (tCB (rSetOfW X.K X.prog X.w) (tCons ta tNil)) tNil)) (sortSWM ma) :=
  ⟨pe_callB (cr_sortW hc) hG hm hv (pa_cons (pe_callTy (cr_setOfW hc hu) hG2 hm2 hv2 (pa_cons ha.pe pa_nil st) (by decide) (by decide) st pl) pa_nil hst) (by decide) (by decide) hst hpl, em_sortSW ha.em⟩
end
end Hk
/-! Hk102: sorted of the comprehension of a set of tuples of texts. -/
namespace Hk
open PySem PySem.Spec PyProof.Rows L2 Evl
section
variable {X : Cx}
theorem addW_ok {pins : List (Addr × Obj)} {σ : L2.St} {H : Hp} {s : Shared} {E : Value → Shared → Prop} {D b : Addr} {l : List (Addr × List Str)} {k : List Str} {Q : Value → Shared → Prop} (I : Inv X pins σ H s) (hu : X.A.units + 64 < cLine) (hD : H D = some (SetTW X.prog X.w D l)) (hl : ∀ p ∈ l, SqT X.K H p.1 (p.2.map V.str)) (hb : SqT X.K H b (k.map V.str)) (room : k ∉ l.map (·.2) → l.length < 4)
    (q : ∀ s', Inv X pins σ (upd H D (SetTW X.prog X.w D (putW (b, k) l))) s' → Q .none s') : wpAny (model X.prog X.w) X.A (call (.builtin "set.add") [.ref D, .ref b]) Q E s :=
  sAddW_raw (setTW_get I hD) (fun p hp => isW_inv I (hl p hp)) (isW_inv I hb) (by omega) room fun h' tk sb new => q _ (I.write (e := D) (t' := tk) (by rw [hD]; trivial) (.inl rfl) (fun b u hb hu => (sb.2 b hb).trans hu) (by obtain ⟨_, _, _, _, ⟨o, ho, _⟩, _⟩ := new; exact ⟨_, ho⟩) (setTW_new new))
/-- {elt for target in iter if ..}, elt a tuple of texts: D the new set -/
def tScW (K : PySem.W.Frag) (P : Program) (w : World) (wi : TI) (g : TG) (tt : TT) (te : TE) (vs : List Nat) : TE := fun σ H Q => wi σ H fun J H1 => ∀ D, H1 D = none → ∃ W : Nat → Nat → Hp → Prop, (∃ m, W 0 m (upd H1 D (SetTW P w D []))) ∧ ∀ i m H, W i m H →
  (J.stop i H ∧ Q (.ref D) H) ∨ (J.go i H ∧ ∃ Nx : Hp → Prop, (∀ H', Nx H' → ∃ m', m' < m ∧ W (i + 1) m' H') ∧ ∀ x H', J.yld i H x H' → g x (wipe σ vs) H' fun σ2 H2 => wipe σ2 vs = wipe σ vs ∧ tt σ2 H2 fun b H3 =>
    if b = true then te σ2 H3 fun y H4 => ∃ (b : Addr) (k : List Str) (l : List (Addr × List Str)), y = .ref b ∧ SqT K H4 b (k.map V.str) ∧ H4 D = some (SetTW P w D l) ∧ (∀ p ∈ l, SqT K H4 p.1 (p.2.map V.str)) ∧ (k ∉ l.map (·.2) → l.length < 4) ∧ Nx (upd H4 D (SetTW P w D (putW (b, k) l))) else Nx H3)
theorem pe_scW {elt tg iter : Expr} {ifs : List Expr} {scope : Scope} {own : List (Str × Nat)} {pos : Pos} {wi : TI} {g : TG} {tt : TT} {te : TE} (hc : X.calm = true) (hu : X.A.units + 64 < cLine) (hN : X.N.Nodup) (hi : PI X tg iter wi) (ok : BlkOk X.N X.env.scope scope own)
    (hg : ∀ (s : Shared) (H : Hp) (C : Addr) (cl : List (Str × Addr)) (fp : List Addr), PG (X.blk s H scope (compEnvC scope cl C X.env) fp) tg g) (ht : ∀ (s : Shared) (H : Hp) (C : Addr) (cl : List (Str × Addr)) (fp : List Addr), PTs (X.blk s H scope (compEnvC scope cl C X.env) fp) ifs tt)
    (he : ∀ (s : Shared) (H : Hp) (C : Addr) (cl : List (Str × Addr)) (fp : List Addr), PE (X.blk s H scope (compEnvC scope cl C X.env) fp) elt te) (hs : ∀ x, foldedSetIterable iter X.env x = pure x := by intro _; rfl) :
    PE X (.SetComp elt [⟨tg, iter, ifs, 0⟩] scope pos) (tScW X.K X.prog X.w wi g tt te (own.map (·.2))) := by
  refine ⟨fun pins s σ H Q I hq => ?_⟩
  rw [PpSet.eval_SetComp]
  have cap : ∀ y ∈ scope.names, y.2 = .free → ∃ c, X.env.cells.lookup y.1 = some c := fun y hy e => (ok.free y hy e).elim (fun k => I.ok.has _ (.inl k)) fun k => I.ok.has _ (.inr k)
  refine wpAny_comprehension_free rfl hs (closure_ok cap) ok.kind (fun y hy e => by rw [ok.uniq y hy, e]) (thn (hi.run pins s σ H _ I hq) fun _ _ hx => thn hx fun _ s2 z => ?_)
  obtain ⟨it, fp, tn, J, H2, rfl, I2, T, at2, foot, q⟩ := z
  refine PpSet.newSet_ok (newEnv_comp ?_)
  generalize hD : s2.heap.objs.size = D
  have dn : H2 D = none := I2.hok.fresh (Nat.le_of_eq hD)
  obtain ⟨W, ⟨m0, w0⟩, turn⟩ := q D dn
  generalize hs3 : ({ s2 with heap := s2.heap.push { cls := .type "set", dict := none, data := .set #[] 0 (.fresh 0 0 (!X.w.params.followText "set-order")) } } : Shared) = s3
  have h3 : s3.heap = s2.heap.push { cls := .type "set", dict := none, data := .set #[] 0 (.fresh 0 0 (!X.w.params.followText "set-order")) } := by rw [← hs3]
  generalize hH3 : upd H2 D (SetTW X.prog X.w D []) = H3 at w0
  have I3 : Inv X pins σ H3 s3 := by
    rw [← hH3, ← hs3]
    exact I2.laid (t' := s2.toks) (fun b o e => Heap.get?_push_of_some _ e) (Nat.le_of_eq hD) (by rw [← hD]; exact setTW_new (freshW (Heap.get?_push_size _ rfl)))
  have foot3 : ∀ b ∈ fp, FpOk X pins H3 b ∧ b < s3.heap.objs.size := fun b hb => by
    obtain ⟨_, e, _⟩ := T.obj _ _ at2 b hb
    have hlt := Heap.lt_size e
    exact ⟨⟨by rw [← hH3, upd_ne (by rw [← hD]; exact Nat.ne_of_lt hlt)]; exact (foot b hb).1, (foot b hb).2⟩, by rw [h3, Heap.size_push]; exact Nat.lt_succ_of_lt hlt⟩
  have at3 : tn 0 s3.heap := T.keep _ _ _ at2 fun b _ o e => by rw [h3]; exact Heap.get?_push_of_some _ e
  have I4 := block_start I3 ok hN foot3
  generalize hcl : cellsFrom (s3.heap.objs.size + 1) scope.names (cloFrom X.env.cells scope.names []) = cl at I4
  have pg := hg s3 H3 s3.heap.objs.size cl fp; have pt := ht s3 H3 s3.heap.objs.size cl fp; have pe := he s3 H3 s3.heap.objs.size cl fp
  have clear : ∀ b ∈ fp, H3 b = none := fun b hb => (foot3 b hb).1.1
  generalize hce : compEnvC scope cl s3.heap.objs.size X.env = ce at I4 pg pt pe
  have cL : ce.locals = s3.heap.objs.size := by subst hce; rfl
  generalize hs4 : ({ s3 with heap := pushCells (s3.heap.push { cls := .type "dict", data := .dict #[] }) scope.names } : Shared) = s4 at I4
  have at4 : tn 0 s4.heap := T.keep _ _ _ at3 fun b _ o e => by rw [← hs4]; exact pushCells_keeps _ _ _ _ (Heap.get?_push_of_some _ e)
  have still : ∀ {σ' : L2.St} {H' : Hp} {s' : Shared}, Inv (X.blk s3 H3 scope ce fp) [] σ' H' s' → (∀ b ∈ fp, H' b = none) → ∀ b ∈ fp, FpOk (X.blk s3 H3 scope ce fp) [] H' b := fun {σ' H' s'} J' hn b hb =>
    ⟨hn b hb, (J'.ok.exf b hb).1, J'.ok.exfs b hb, .inl hb, fun x c e => (J'.ok.exf b hb).2 x c e, fun p hp => (List.not_mem_nil (show p ∈ [] from hp)).elim⟩
  have post : ∀ s' m H', Inv X pins σ H' s' → Q (.ref D) H' → s'.heap.Ns s3.heap.objs.size m → FpOk X pins H' s3.heap.objs.size → compPost (model X.prog X.w) X.A X.xe none (fun v s' => ∃ z H', Inv X pins σ H' s' ∧ RelV z v ∧ Q z H') (.ref D) s3.heap.objs.size (.ok .next) s' := fun s' m H' I' q' hn f => ⟨m, hn, fun h'' sb => by
    obtain ⟨f0, f1, f2, f3, f4, f5⟩ := f
    exact ⟨.ref D, H', I'.turned (t' := s'.toks) (fun b o hb e => (sb.2 b hb).trans e) f0 f1 f3 f4 f5, rfl, q'⟩⟩
  have loop : codeAny (model X.prog X.w) X.A (.compLoop (.SetComp elt [⟨tg, iter, ifs, 0⟩] scope pos) 0 (.ref it) (.ref D) ce) (compPost (model X.prog X.w) X.A X.xe none (fun v s' => ∃ z H', Inv X pins σ H' s' ∧ RelV z v ∧ Q z H') (.ref D) s3.heap.objs.size) s4 := by
    refine PpSet.compLoopS_any (fun n s' => ∃ i H', Inv (X.blk s3 H3 scope ce fp) [] (wipe σ (own.map (·.2))) H' s' ∧ tn i s'.heap ∧ (∀ b ∈ fp, H' b = none) ∧ W i n H') ?_ m0 ⟨0, H3, I4, at4, clear, w0⟩
    rintro n s5 ⟨i, H5, I5, at5, n5, w5⟩
    rcases turn i n H5 w5 with ⟨stop, done⟩ | ⟨go, Nx, down, step⟩
    · refine thnF (T.done (X.blk s3 H3 scope ce fp) rfl rfl rfl hc i [] s5 _ H5 (fun _ _ => False) I5 (still I5 n5) at5 stop) fun r s6 z => ?_
      obtain ⟨rfl, I6⟩ := z
      have I7 : Inv X pins σ H5 s6 := I3.call' (ch := fp) I6.os I6.base I6.hok I6.bare fun b hb => ⟨(foot3 b hb).1.2.2.2.1, (foot3 b hb).1.2.1, (foot3 b hb).1.2.2.2.2.1, (foot3 b hb).1.2.2.2.2.2⟩
      have nC : H5 s3.heap.objs.size = none := cL ▸ (show H5 ce.locals = none from I6.free)
      obtain ⟨m, hn, _⟩ := I6.loc
      exact post s6 m H5 I7 done (cL ▸ (show s6.heap.Ns ce.locals m from hn)) (I3.fpOk (Nat.le_refl _) nC)
    · refine thnF (T.item (X.blk s3 H3 scope ce fp) rfl rfl rfl hc i [] s5 _ H5 (fun _ _ => False) I5 (still I5 n5) at5 go) fun r s6 z => ?_
      obtain ⟨u, rfl, h6⟩ := z
      refine thnF h6 fun _ s7 z => ?_
      obtain ⟨x, H7, I7, r7, y7, at7, n7⟩ := z
      refine thnF (pg.run _ s7 _ H7 x u _ (I7.pinned (still I7 n7) (T.obj _ _ at7)) r7 (step x H7 y7)) fun _ s8 z => ?_
      obtain ⟨σ8, H8, I8, hw8, q8⟩ := z
      refine thnF (pt.run _ s8 σ8 H8 _ I8 q8) fun b s9 z => ?_
      obtain ⟨H9, I9, q9⟩ := z
      have fin : ∀ {s' : Shared} {H' : Hp}, Inv (X.blk s3 H3 scope ce fp) ([] ++ pinsAt fp s7.heap) σ8 H' s' → Nx H' → ∃ m, m < n ∧ ∃ i H', Inv (X.blk s3 H3 scope ce fp) [] (wipe σ (own.map (·.2))) H' s' ∧ tn i s'.heap ∧ (∀ b ∈ fp, H' b = none) ∧ W i m H' := fun {s' H'} I' nx => by
        obtain ⟨m', hm, w'⟩ := down H' nx
        have pin : ∀ b ∈ fp, ∀ o, s7.heap.get? b = some o → s'.heap.get? b = some o ∧ H' b = none := fun b hb o e => ⟨(I'.pin (b, o) (List.mem_append_right _ (List.mem_append_right _ (mem_pinsAt hb e)))).1, (I'.pin (b, o) (List.mem_append_right _ (List.mem_append_right _ (mem_pinsAt hb e)))).2.1⟩
        refine ⟨m', hm, i + 1, H', (I'.unpinned (pins := [])).weak (by rw [← hw8, wipe_length]) (fun j v e => by rw [← hw8] at e; exact (wipe_some e).1), T.keep _ _ _ at7 fun b hb o e => (pin b hb o e).1, fun b hb => ?_, w'⟩
        obtain ⟨o, e, _⟩ := T.obj _ _ at7 b hb
        exact (pin b hb o e).2
      cases b with
      | false => simp only [Bool.false_eq_true, if_false] at q9 ⊢; exact fin I9 q9
      | true =>
        simp only [if_true] at q9 ⊢
        refine thnF (pe.run _ s9 σ8 H9 _ I9 q9) fun z s10 y => ?_
        obtain ⟨yv, H10, I10, r10, b, k, l, rfl, hb, hD10, hl, room, nx⟩ := y
        cases (show z = Value.ref b from r10)
        exact addW_ok (X := X.blk s3 H3 scope ce fp) I10 hu hD10 hl hb room fun s11 I11 => fin I11 nx
  subst hce
  exact PpSet.codeAny_compStart_set loop (T.self X.A 0 _ _ _ at4 loop)
end
def wdD : Dt → Option (List Str)
  | .tup ds => strsD ds
  | _ => none
theorem wdD_ok {d : Dt} {k : List Str} (h : wdD d = some k) : d = txT k := by
  cases d with
  | tup ds =>
    have h : strsD ds = some k := h
    rw [strsD_ok h]
    rfl
  | _ => cases h
def putK (k : List Str) (l : List (List Str)) : List (List Str) := if k ∈ l then l else k :: l
/-- what the comprehension gathers, each tuple once, at most four, none empty -/
def gatherW (tf : Dt → Option Bool) (mf : Dt → Option Dt) : List Dt → List (List Str) → Option (List (List Str))
  | [], acc => some acc
  | d :: ds, acc => match tf d with
    | some true => match (mf d).bind wdD with
      | some k => if (k ∉ acc → acc.length < 4) ∧ k ≠ [] then gatherW tf mf ds (putK k acc) else none
      | none => none
    | some false => gatherW tf mf ds acc
    | none => none
theorem putK_keys (b : Addr) (k : List Str) (l : List (Addr × List Str)) : (putW (b, k) l).map (·.2) = putK k (l.map (·.2)) := by
  unfold putW putK
  show (if k ∈ l.map (·.2) then l else (b, k) :: l).map (·.2) = _
  split <;> rfl
theorem gatherW_ne {tf : Dt → Option Bool} {mf : Dt → Option Dt} : ∀ {ds : List Dt} {acc l : List (List Str)}, gatherW tf mf ds acc = some l → (∀ k ∈ acc, k ≠ []) → ∀ k ∈ l, k ≠ []
  | [], acc, l, h, ha => by cases h; exact ha
  | d :: ds, acc, l, h, ha => by
    unfold gatherW at h
    split at h
    · split at h
      · split at h
        · rename_i k _ hl
          refine gatherW_ne h fun k' hk' => ?_
          unfold putK at hk'
          split at hk'
          · exact ha k' hk'
          · rcases List.mem_cons.mp hk' with rfl | z
            · exact hl.2
            · exact ha k' z
        · cases h
      · cases h
    · exact gatherW_ne h ha
    · cases h
def sortPW (p : Nat) (tf : Dt → Option Bool) (mf : Dt → Option Dt) (i : M (List Dt)) : M Vl := fun E => match i E with
  | some (ds, E1) => if p < E1.sl.length then match gatherW tf mf ds [] with
    | some acc => newL ((sortW acc).map txT) ⟨E1.sl, E1.ce ++ [.dead]⟩
    | none => none
    else none
  | none => none
theorem em_sortPW {K : PySem.W.Frag} {P : Program} {w : World} {p : Nat} {wi : TI} {mi : M (List Dt)} {g : TG} {tt : TT} {mt : M Bool} {te : TE} {me : M Vl} {tf : Dt → Option Bool} {mf : Dt → Option Dt} (hi : IM K wi mi) (hg : GcM K [p] g (nameG p)) (ht : TM K tt mt) (hm : EM K te me) (et : EqP p mt tf) (em : EqM p me mf) :
    EM K (tCB (rSortW K P w) (tCons (tScW K P w wi g tt te [p]) tNil)) (sortPW p tf mf mi) := fun {μ Hd H σ E r E'} R e Q q => by
  unfold sortPW at e
  split at e
  · rename_i ds E1 q1
    split at e
    · rename_i hp
      split at e
      · rename_i acc q2
        refine hi R q1 _ fun μ1 Hd1 H1 J g1 R1 sv D hD => ?_
        obtain ⟨g2, R2, _⟩ := R1.newX (c := .pin (SetTW P w D [])) (o := SetTW P w D []) hD ⟨rfl, fun c q => setTW_code c q, fun _ => nofun⟩
        have hDat : (μ1 ++ [D])[E1.ce.length]? = some D := by
          rw [← R1.wo.len]
          exact get_last1 _ _
        refine ⟨fun i n H' => ∃ μ' Hd' l, Gr (μ1 ++ [D]) Hd1 μ' Hd' ∧ Rl K μ' Hd' H' (L2.wipe σ [p]) (wipeE [p] ⟨E1.sl, E1.ce ++ [Ce.pin (SetTW P w D l)]⟩) ∧ n = ds.length - i ∧ (∀ p ∈ l, Rp K Hd' (txT p.2) (V.ref p.1)) ∧ gatherW tf mf (ds.drop i) (l.map (·.2)) = some acc,
          ⟨_, _, Hd1, [], Gr.refl _ _, ⟨R2.wo, R2.sl.wipe [p]⟩, rfl, fun p hp => absurd hp List.not_mem_nil, q2⟩, fun i n H' hw => ?_⟩
        obtain ⟨μ', Hd', l, g3, R3, ek, hl, q3⟩ := hw
        have hat : ∀ {μ2 : List Addr} {Hd2 H2 : Hp} {σ2 : L2.St} {sl2 : List (Option Vl)}, Gr (μ1 ++ [D]) Hd1 μ2 Hd2 → Rl K μ2 Hd2 H2 σ2 ⟨sl2, E1.ce ++ [Ce.pin (SetTW P w D l)]⟩ → H2 D = some (SetTW P w D l) ∧ μ2[E1.ce.length]? = some D := fun {μ2 Hd2 H2 σ2 sl2} gg RR => by
          have ha := gg.pre _ _ hDat
          obtain ⟨_, o, h2, h3⟩ := RR.wo.at_ E1.ce.length _ D (get_last1 _ _) ha rfl
          exact ⟨by rw [h2, show o = SetTW P w D l from h3.1], ha⟩
        cases hd : ds.drop i with
        | nil =>
          rw [hd] at q3
          have q3 : l.map (·.2) = acc := Option.some.inj q3
          have hle : ds.length ≤ i := by
            have := congrArg List.length hd
            rw [List.length_drop] at this
            simp at this
            omega
          refine .inl ⟨(sv Hd' H' i (g2.trans g3).ex R3.wo.ex).1 hle, D, l, rfl, (hat g3 R3).1, fun p hp => ?_, fun p hp => ?_, fun ys a nd hp hs ha => ?_⟩
          · obtain ⟨b, e, hb⟩ := txT_at R3.wo.ex (hl p hp)
            cases e
            exact hb
          · exact gatherW_ne q2 (fun _ z => absurd z List.not_mem_nil) p.2 (by rw [← q3]; exact List.mem_map.mpr ⟨p, hp, rfl⟩)
          have R4 : Rl K μ' Hd' H' σ ⟨E1.sl, E1.ce ++ [.dead]⟩ := rl_dead (c := .pin (SetTW P w D l)) ⟨R3.wo, (R1.sl.gr g2).gr g3⟩
          obtain ⟨ms, z1, z2⟩ := rpw_perm hp (rpw_of l hl)
          have em : ms = sortW acc := leW_unique _ _ (by rw [← q3]; exact z1.trans (sortW_perm _).symm) (rpw_le R4.wo.ex z2 hs) (sortW_le _)
          rw [em] at z2
          obtain ⟨g5, R5, r5⟩ := newL_ok R4 z2 e ha
          exact q _ _ _ _ (((g1.trans g2).trans g3).trans g5) R5 r5
        | cons x rest =>
          rw [hd] at q3
          obtain ⟨hx, hr⟩ := drop_cons hd
          have hlt : i < ds.length := (List.getElem?_eq_some_iff.mp hx).1
          obtain ⟨s1, s2⟩ := sv.new R3 (g2.trans g3).ex hx
          refine .inr ⟨s1, fun H2 => ∃ m', m' < n ∧ ∃ μ2 Hd2 l2, Gr (μ1 ++ [D]) Hd1 μ2 Hd2 ∧ Rl K μ2 Hd2 H2 (L2.wipe σ [p]) (wipeE [p] ⟨E1.sl, E1.ce ++ [Ce.pin (SetTW P w D l2)]⟩) ∧ m' = ds.length - (i + 1) ∧ (∀ p ∈ l2, Rp K Hd2 (txT p.2) (V.ref p.1)) ∧ gatherW tf mf (ds.drop (i + 1)) (l2.map (·.2)) = some acc, fun _ h => h, fun v H3 hy => ?_⟩
          obtain ⟨Hd4, g4, R4, r4⟩ := s2 v H3 hy
          have hset : ∀ E5, nameG p (.d x) (wipeE [p] ⟨E1.sl, E1.ce ++ [Ce.pin (SetTW P w D l)]⟩) = some E5 → E5 = ⟨E1.sl.set p (some (.d x)), E1.ce ++ [Ce.pin (SetTW P w D l)]⟩ := fun E5 h5 => by
            have : some (En.mk ((E1.sl.set p none).set p (some (.d x))) (E1.ce ++ [Ce.pin (SetTW P w D l)])) = some E5 := h5
            rw [List.set_set] at this
            exact (Option.some.inj this).symm
          refine hg R4 (r := .d x) r4 rfl _ fun μ5 Hd5 H5 σ5 g5 R5 w5 => ⟨w5.trans (by rw [wipe_wipe]), ?_⟩
          rw [hset _ rfl] at R5
          have back : ∀ {H6 : Hp} {μ6 : List Addr} {Hd6 : Hp} {l6 : List (Addr × List Str)}, Rl K μ6 Hd6 H6 σ5 ⟨E1.sl.set p (some (.d x)), E1.ce ++ [Ce.pin (SetTW P w D l6)]⟩ → Rl K μ6 Hd6 H6 (L2.wipe σ [p]) (wipeE [p] ⟨E1.sl, E1.ce ++ [Ce.pin (SetTW P w D l6)]⟩) := fun {H6 μ6 Hd6 l6} R6 => by
            have h6 := R6.sl.wipe [p]
            rw [w5, wipe_wipe] at h6
            refine ⟨R6.wo, ?_⟩
            have : wipeO (E1.sl.set p (some (.d x))) [p] = wipeO E1.sl [p] := by
              show (E1.sl.set p _).set p none = E1.sl.set p none
              rw [List.set_set]
            rw [this] at h6
            exact h6
          unfold gatherW at q3
          split at q3
          · rename_i q5
            split at q3
            · rename_i k q6
              split at q3
              · rename_i hl6
                have e1 := et x E1.sl (E1.ce ++ [Ce.pin (SetTW P w D l)]) hp
                rw [q5] at e1
                refine ht R5 e1 _ fun μ6 Hd6 H6 g6 R6 => ?_
                show te _ _ _
                obtain ⟨y, hy1, hy2⟩ := Option.bind_eq_some_iff.mp q6
                have e2 := em x E1.sl (E1.ce ++ [Ce.pin (SetTW P w D l)]) hp
                rw [hy1] at e2
                refine hm R6 e2 _ fun μ7 Hd7 H7 v7 g7 R7 r7 => ?_
                have ey := wdD_ok hy2
                subst ey
                obtain ⟨b, eb, hb⟩ := txT_at R7.wo.ex r7
                have gg := (((g3.trans g4).trans g5).trans g6).trans g7
                obtain ⟨hD7, ha7⟩ := hat gg R7
                have hl7 : ∀ p ∈ l, Rp K Hd7 (txT p.2) (V.ref p.1) := fun p hp => Rp.ex ((((g4.trans g5).trans g6).trans g7)).ex _ _ (hl p hp)
                refine ⟨b, k, l, eb, hb, hD7, fun p hp => ?_, fun z => by have y := hl6.1 z; rwa [List.length_map] at y, ?_⟩
                · obtain ⟨b2, e2, hb2⟩ := txT_at R7.wo.ex (hl7 p hp)
                  cases e2
                  exact hb2
                have R8 := R7.setX (c' := .pin (SetTW P w D (putW (b, k) l))) (o := SetTW P w D (putW (b, k) l)) (get_last1 _ _) rfl ha7 ⟨rfl, fun c q => setTW_code c q, fun _ => nofun⟩
                rw [show (En.mk (E1.sl.set p (some (Vl.d x))) (E1.ce ++ [Ce.pin (SetTW P w D l)])).ce.set E1.ce.length (.pin (SetTW P w D (putW (b, k) l))) = E1.ce ++ [Ce.pin (SetTW P w D (putW (b, k) l))] from set_last1 _ _ _] at R8
                exact ⟨ds.length - (i + 1), by omega, μ7, Hd7, putW (b, k) l, gg, back R8, rfl, fun p hp => (putW_mem hp).elim (fun z => by rw [z, ← eb]; exact r7) (hl7 p), by rw [hr, putK_keys]; exact q3⟩
              · cases q3
            · cases q3
          · rename_i q5
            have e1 := et x E1.sl (E1.ce ++ [Ce.pin (SetTW P w D l)]) hp
            rw [q5] at e1
            refine ht R5 e1 _ fun μ6 Hd6 H6 g6 R6 => ?_
            show ∃ m', _
            exact ⟨ds.length - (i + 1), by omega, μ6, Hd6, l, ((g3.trans g4).trans g5).trans g6, back R6, rfl, fun p hp => Rp.ex (((g4.trans g5).trans g6)).ex _ _ (hl p hp), by rw [hr]; exact q3⟩
          · cases q3
      · cases e
    · cases e
  · cases e
section
variable {X : Cx} {elt tg iter : Expr} {ifs : List Expr} {te : TE} {me : M Vl} {pos q cpos : Pos} {scope : Scope} {x : Str} {p : Nat} {wi : TI} {mi : M (List Dt)} {g : TG} {tt : TT} {mt : M Bool} {tf : Dt → Option Bool} {mf : Dt → Option Dt}
/-- sorted({e for x in d if c}), c and the tuple of texts e by x alone -/
theorem xsortPW (hm : X.mg "sorted" = none) (hv : bootBuiltins "sorted" = some (.builtin "sorted")) (hc : X.calm = true) (hu : X.A.units + 64 < cLine) (hN : X.N.Nodup) (hi : Ix_ X tg iter wi mi) (ok : BlkOk X.N X.env.scope scope [(x, p)])
    (hg : ∀ (s : Shared) (H : Hp) (C : Addr) (cl : List (Str × Addr)) (fp : List Addr), Gc (X.blk s H scope (compEnvC scope cl C X.env) fp) [p] tg g (nameG p))
    (ht : ∀ (s : Shared) (H : Hp) (C : Addr) (cl : List (Str × Addr)) (fp : List Addr), Px (X.blk s H scope (compEnvC scope cl C X.env) fp) ifs tt mt)
    (he : ∀ (s : Shared) (H : Hp) (C : Addr) (cl : List (Str × Addr)) (fp : List Addr), Ex_ (X.blk s H scope (compEnvC scope cl C X.env) fp) elt te me) (et : EqP p mt tf) (em : EqM p me mf) (hs : ∀ x, foldedSetIterable iter X.env x = pure x := by intro _; rfl)
    (hG : Gl X "sorted" := by rfl) (hst : starEach [Expr.SetComp elt [⟨tg, iter, ifs, 0⟩] scope pos] X.env = (false, eval (Expr.SetComp elt [⟨tg, iter, ifs, 0⟩] scope pos) X.env) :: starEach [] X.env := by rfl) (hpl : (backTo cpos (starEach [] X.env)).any (·.1) = false := by rfl) :
    Ex_ X (.Call (.Name "sorted" q) [.SetComp elt [⟨tg, iter, ifs, 0⟩] scope pos] [] cpos) (tCB (rSortW X.K X.prog X.w) (tCons (tScW X.K X.prog X.w wi g tt te [p]) tNil)) (sortPW p tf mf mi) :=
  ⟨pe_callB (cr_sortW hc) hG hm hv (pa_cons (pe_scW (own := [(x, p)]) hc hu hN hi.pi ok (fun s H C cl fp => (hg s H C cl fp).pg) (fun s H C cl fp => (ht s H C cl fp).pt) (fun s H C cl fp => (he s H C cl fp).pe) hs) pa_nil hst) (by decide) (by decide) hst hpl,
   em_sortPW hi.im (hg X.s_0 X.H_0 0 [] []).gm (ht X.s_0 X.H_0 0 [] []).tm (he X.s_0 X.H_0 0 [] []).em et em⟩
end
/-- two items of the item at hand, as a tuple -/
def pairF (a b : Option Dt) : Option Dt := a.bind fun x => b.bind fun y => some (.tup [x, y])
theorem eqm_tup2 {p : Nat} {m1 m2 : M Vl} {f g : Dt → Option Dt} (h1 : EqM p m1 f) (h2 : EqM p m2 g) : EqM p (tupM (consM m1 (consM m2 (retM [])))) (fun d => pairF (f d) (g d)) := fun d sl ce hp => by
  have e1 := h1 d sl ce hp
  have e2 := h2 d sl ce hp
  show tupM (consM m1 (consM m2 (retM []))) _ = (pairF (f d) (g d)).map _
  unfold tupM consM pairF
  simp only [bindM, e1]
  cases f d with
  | none => rfl
  | some x =>
    simp only [Option.map_some, e2]
    cases g d with
    | none => rfl
    | some y => rfl
theorem eqm_pair {p : Nat} {i j : Int} : EqM p (tupM (consM (bindM (vM p) fun x => bindM (retM (.d (.int i))) (ixF x)) (consM (bindM (vM p) fun x => bindM (retM (.d (.int j))) (ixF x)) (retM [])))) (fun d => pairF (ixD d (.int i)) (ixD d (.int j))) := eqm_tup2 eqm_at eqm_at
end Hk
/-! Hk103: a list comprehension over a list that is seen anew at each turn (a cell, or a place in a tree). -/
namespace Hk
open PySem PySem.Spec PyProof.Rows L2 Evl
def liveS (own : List Nat) (k s : Nat) (g : Vl → En → Option En) (t : M Bool) (m : M Vl) : Nat → Nat → En → Option En
  | 0, _, _ => none
  | n + 1, i, E => match lstS E.ce (.c s) with
    | some xs => match xs[i]? with
      | none => some E
      | some d => match turnC own k g t m d E with
        | some E1 => liveS own k s g t m n (i + 1) E1
        | none => none
    | none => none
def compSM (own : List Nat) (ms : M Vl) (g : Vl → En → Option En) (t : M Bool) (m : M Vl) : M Vl := fun E => match ms E with
  | some (.c s, E1) => if (lstS E1.ce (.c s)).isSome = true then match liveS own E1.ce.length s g t m 100000 0 ⟨E1.sl, E1.ce ++ [.lst []]⟩ with
    | some E2 => some (.c E1.ce.length, ⟨bring E1.sl E2.sl own, E2.ce⟩)
    | none => none
    else none
  | _ => none
theorem em_compS {K : PySem.W.Frag} {own : List Nat} {ti : TE} {ms : M Vl} {g : TG} {gm : Vl → En → Option En} {tt : TT} {mt : M Bool} {te : TE} {m : M Vl} (hi : EM K ti ms) (hg : GcM K own g gm) (ht : TM K tt mt) (he : EM K te m) : EM K (tLc (fun σ H R => iList K ti σ H R ∨ iTup K ti σ H R) g tt te own) (compSM own ms gm mt m) := fun {μ Hd H σ E r E'} R e Q q => by
  unfold compSM at e
  split at e
  · rename_i s E1 q1
    split at e
    · rename_i hq
      split at e
      rotate_left
      · cases e
      rename_i E2 q2
      cases e
      refine .inl (hi R q1 _ fun μ1 Hd1 H1 v g1 R1 r1 => ?_)
      obtain ⟨a, ha, rfl⟩ := r1
      refine ⟨a, rfl, ?_, ?_⟩
      · obtain ⟨xs, hx⟩ := Option.isSome_iff_exists.mp hq
        obtain ⟨_, vs, e1, h1, _⟩ := lstS_ok (r := .c s) (v := .ref a) R1.wo ⟨a, ha, rfl⟩ hx
        cases e1
        exact ⟨vs, h1⟩
      intro D hD
      obtain ⟨g2, R2, r2⟩ := R1.newC (xs := []) (vs := []) hD rfl
      have hk : (μ1 ++ [D])[E1.ce.length]? = some D := by
        rw [← R1.wo.len]
        simp
      have ha2 := g2.pre _ _ ha
      refine ⟨fun i k H' => ∃ μ' Hd' E', Gr (μ1 ++ [D]) Hd1 μ' Hd' ∧ Rl K μ' Hd' H' (L2.wipe σ own) (wipeE own E') ∧ liveS own E1.ce.length s gm mt m k i E' = some E2,
        ⟨_, μ1 ++ [D], Hd1, ⟨E1.sl, E1.ce ++ [Ce.lst []]⟩, Gr.refl _ _, ⟨R2.wo, R2.sl.wipe own⟩, q2⟩, fun i k H' hw => ?_⟩
      obtain ⟨μ', Hd', E3, g3, R3, q3⟩ := hw
      cases k with
      | zero => cases q3
      | succ k =>
        unfold liveS at q3
        have ha3 := g3.pre _ _ ha2
        split at q3
        · rename_i xs hx
          obtain ⟨_, vs, e1, c1, c2⟩ := lstS_ok (r := .c s) (v := .ref a) R3.wo ⟨a, ha3, rfl⟩ (show lstS (wipeE own E3).ce (.c s) = _ from hx)
          cases e1
          split at q3
          · rename_i hn
            cases q3
            refine .inl ⟨⟨vs, c1, ?_⟩, q μ' Hd' H' _ ((g1.trans g2).trans g3) ⟨R3.wo, Sl.bring ((R1.sl.gr g2).gr g3) R3.sl⟩ ⟨D, g3.pre _ _ hk, rfl⟩⟩
            rw [c2.len]
            exact List.getElem?_eq_none_iff.mp hn
          · rename_i x hxi
            obtain ⟨u, u1, u2⟩ := RpA.at c2 hxi
            refine .inr ⟨⟨vs, u, c1, u1⟩, fun H2 => ∃ m', m' < k + 1 ∧ ∃ μ2 Hd2 E4, Gr (μ1 ++ [D]) Hd1 μ2 Hd2 ∧ Rl K μ2 Hd2 H2 (L2.wipe σ own) (wipeE own E4) ∧ liveS own E1.ce.length s gm mt m m' (i + 1) E4 = some E2, fun _ h => h, fun v H3 hy => ?_⟩
            obtain ⟨rfl, y2⟩ := hy
            have ev : v = u := Option.some.inj ((y2 vs (c1)).symm.trans u1)
            subst ev
            split at q3
            · rename_i E4 q4
              unfold turnC at q4
              split at q4
              · rename_i E5 q5
                refine hg R3 (r := .d x) u2 q5 _ fun μ5 Hd5 H5 σ5 g5 R5 w5 => ⟨w5.trans (by rw [wipe_wipe]), ?_⟩
                have gg := g3.trans g5
                split at q4
                · rename_i E6 q6
                  refine ht R5 q6 _ fun μ6 Hd6 H6 g6 R6 => ?_
                  show te σ5 H6 _
                  split at q4
                  · rename_i y E7 q7
                    obtain ⟨z, E8, e8, e9⟩ := bindM_some q7
                    split at q4
                    · rename_i acc q8
                      split at q4
                      · rename_i hz
                        cases q4
                        refine he R6 e8 _ fun μ7 Hd7 H7 w g7 R7 r7 => ?_
                        obtain ⟨Hd8, g8, R8, r8⟩ := fzM_ok R7 r7 e9
                        have gall := ((gg.trans g6).trans g7).trans g8
                        have hD8 := gall.pre _ _ hk
                        obtain ⟨d1, us, d2, d3⟩ := R8.wo.lst q8 hD8
                        refine ⟨us, d2, by rw [d3.len]; exact sz_lt hz, k, by omega, μ7, Hd8, _, gall, ⟨?_, ?_⟩, q3⟩
                        · exact (R8.setC q8 hD8 (d3.app (RpA.one r8))).wo
                        · have := R8.sl.wipe own
                          rw [w5, wipe_wipe] at this
                          exact this
                      · cases q4
                    · cases q4
                  · cases q4
                · rename_i E6 q6
                  cases q4
                  refine ht R5 q6 _ fun μ6 Hd6 H6 g6 R6 => ?_
                  show ∃ m', _
                  refine ⟨k, by omega, μ6, Hd6, E4, gg.trans g6, ⟨R6.wo, ?_⟩, q3⟩
                  have := R6.sl.wipe own
                  rw [w5, wipe_wipe] at this
                  exact this
                · cases q4
              · cases q4
            · cases q3
        · cases q3
    · cases e
  · cases e
section
variable {X : Cx} {elt tg iter : Expr} {ifs : List Expr} {ti te : TE} {m ms : M Vl} {pos : Pos}
theorem xcompS {scope : Scope} {own : List (Str × Nat)} {g : TG} {gm : Vl → En → Option En} {tt : TT} {mt : M Bool} (hc : X.calm = true) (hN : X.N.Nodup) (hi : Ex_ X iter ti ms) (ok : BlkOk X.N X.env.scope scope own)
    (hg : ∀ (s : Shared) (H : Hp) (C : Addr) (cl : List (Str × Addr)) (fp : List Addr), Gc (X.blk s H scope (compEnvC scope cl C X.env) fp) (own.map (·.2)) tg g gm)
    (ht : ∀ (s : Shared) (H : Hp) (C : Addr) (cl : List (Str × Addr)) (fp : List Addr), Px (X.blk s H scope (compEnvC scope cl C X.env) fp) ifs tt mt)
    (he : ∀ (s : Shared) (H : Hp) (C : Addr) (cl : List (Str × Addr)) (fp : List Addr), Ex_ (X.blk s H scope (compEnvC scope cl C X.env) fp) elt te m) (hs : ∀ x, foldedSetIterable iter X.env x = pure x := by intro _; rfl) :
    Ex_ X (.ListComp elt [⟨tg, iter, ifs, 0⟩] scope pos) (tLc (fun σ H R => iList X.K ti σ H R ∨ iTup X.K ti σ H R) g tt te (own.map (·.2))) (compSM (own.map (·.2)) ms gm mt m) :=
  ⟨pe_lc hc hN (PI.or (pi_list hi.pe) (pi_tup hi.pe)) ok (fun s H C cl fp => (hg s H C cl fp).pg) (fun s H C cl fp => (ht s H C cl fp).pt) (fun s H C cl fp => (he s H C cl fp).pe) hs,
   em_compS hi.em (hg X.s_0 X.H_0 0 [] []).gm (ht X.s_0 X.H_0 0 [] []).tm (he X.s_0 X.H_0 0 [] []).em⟩
end
/-- what it gives, where the list stays -/
theorem compS_map {α : Type} {v s : Nat} {ms : M Vl} {t : M Bool} {m : M Vl} {E : En} {sl : List (Option Vl)} {ce : List Ce} (xs : List α) (h : α → Dt) (p : α → Bool) (F : α → Dt) (hi : ms E = some (.c s, ⟨sl, ce⟩)) (hc : ∀ gs : List Ce, lstS (ce ++ gs) (.c s) = some (xs.map h)) (hv : v < sl.length) (hn : xs.length < 90000)
    (hs : ∀ a ∈ xs, ∀ (c : Ce) (gs : List Ce), ∃ gs', t ⟨sl.set v (some (.d (h a))), ce ++ [c] ++ gs⟩ = some (p a, ⟨sl.set v (some (.d (h a))), ce ++ [c] ++ gs'⟩) ∧ (p a = true → ∃ r E3 gs'', m ⟨sl.set v (some (.d (h a))), ce ++ [c] ++ gs'⟩ = some (r, E3) ∧ fzM r E3 = some (F a, ⟨sl.set v (some (.d (h a))), ce ++ [c] ++ gs''⟩))) :
    ∃ gs, compSM [v] ms (nameG v) t m E = some (.c ce.length, ⟨sl, ce ++ [.lst ((xs.filter p).map F)] ++ gs⟩) := by
  have fl : ∀ n, ((xs.take n).filter p).length ≤ xs.length := fun n => Nat.le_trans (List.length_filter_le _ _) (by rw [List.length_take]; omega)
  have main : ∀ (n i fuel : Nat) (z : Option Vl) (gs : List Ce), i + n = xs.length → n < fuel → ∃ z' gs', liveS [v] ce.length s (nameG v) t m fuel i ⟨sl.set v z, ce ++ [.lst (((xs.take i).filter p).map F)] ++ gs⟩ = some ⟨sl.set v z', ce ++ [.lst ((xs.filter p).map F)] ++ gs'⟩ := by
    intro n
    induction n with
    | zero =>
      intro i fuel z gs hi2 hf
      cases fuel with
      | zero => omega
      | succ fuel =>
        refine ⟨z, gs, ?_⟩
        unfold liveS
        have h1 : lstS (ce ++ [Ce.lst (((xs.take i).filter p).map F)] ++ gs) (.c s) = some (xs.map h) := by
          rw [List.append_assoc]
          exact hc _
        simp only [h1]
        have h2 : (xs.map h)[i]? = none := List.getElem?_eq_none_iff.mpr (by rw [List.length_map]; omega)
        simp only [h2]
        rw [List.take_of_length_le (by omega)]
    | succ n ih =>
      intro i fuel z gs hi2 hf
      cases fuel with
      | zero => omega
      | succ fuel =>
        have hlt : i < xs.length := by omega
        have hx : xs[i]? = some xs[i] := List.getElem?_eq_getElem hlt
        have et : xs.take (i + 1) = xs.take i ++ [xs[i]] := by rw [List.take_succ, hx]; rfl
        have h1 : lstS (ce ++ [Ce.lst (((xs.take i).filter p).map F)] ++ gs) (.c s) = some (xs.map h) := by
          rw [List.append_assoc]
          exact hc _
        have h2 : (xs.map h)[i]? = some (h xs[i]) := by rw [List.getElem?_map, hx]; rfl
        obtain ⟨gs', ht, hm⟩ := hs xs[i] (List.getElem_mem hlt) (.lst (((xs.take i).filter p).map F)) gs
        have hg : nameG v (.d (h xs[i])) (wipeE [v] ⟨sl.set v z, ce ++ [.lst (((xs.take i).filter p).map F)] ++ gs⟩) = some ⟨sl.set v (some (.d (h xs[i]))), ce ++ [.lst (((xs.take i).filter p).map F)] ++ gs⟩ := by
          show some (En.mk (((sl.set v z).set v none).set v (some (.d (h xs[i])))) _) = _
          rw [List.set_set, List.set_set]
          rfl
        unfold liveS
        simp only [h1, h2]
        cases hb : p xs[i] with
        | true =>
          rw [hb] at ht
          obtain ⟨r, E3, gs'', k1, k2⟩ := hm hb
          have hl := fl i
          rw [zt_yes hg ht k1 k2 (get_mid _ _ _) (by rw [List.length_map]; omega), set_mid]
          obtain ⟨z', gs3, e3⟩ := ih (i + 1) fuel (some (.d (h xs[i]))) gs'' (by omega) (by omega)
          rw [et, List.filter_append, List.map_append, List.filter_cons, hb] at e3
          exact ⟨z', gs3, e3⟩
        | false =>
          rw [hb] at ht
          rw [zt_no hg ht]
          obtain ⟨z', gs3, e3⟩ := ih (i + 1) fuel (some (.d (h xs[i]))) gs' (by omega) (by omega)
          rw [et, List.filter_append, List.map_append, List.filter_cons, hb] at e3
          refine ⟨z', gs3, ?_⟩
          simpa using e3
  obtain ⟨z', gs', e⟩ := main xs.length 0 100000 (sl[v]'hv) [] (by omega) (by omega)
  rw [List.set_getElem_self, List.append_nil, List.take_zero] at e
  refine ⟨gs', ?_⟩
  unfold compSM
  rw [hi]
  have hq : lstS ce (.c s) = some (xs.map h) := by
    have := hc []
    rwa [List.append_nil] at this
  have e' : liveS [v] ce.length s (nameG v) t m 100000 0 ⟨sl, ce ++ [.lst []]⟩ = some ⟨sl.set v z', ce ++ [.lst ((xs.filter p).map F)] ++ gs'⟩ := e
  show (if (lstS ce (.c s)).isSome = true then (match liveS [v] ce.length s (nameG v) t m 100000 0 ⟨sl, ce ++ [.lst []]⟩ with
    | some E2 => some (Vl.c ce.length, (⟨bring sl E2.sl [v], E2.ce⟩ : En))
    | none => none) else none) = _
  rw [hq, show (some (xs.map h)).isSome = true from rfl, if_pos rfl, e']
  have hb : bring sl (sl.set v z') [v] = sl := by
    show (sl.set v z').set v (sl[v]?.getD none) = sl
    rw [List.set_set, List.getElem?_eq_getElem hv]
    exact List.set_getElem_self hv
  show some (Vl.c ce.length, (⟨bring sl (sl.set v z') [v], _⟩ : En)) = _
  rw [hb]
theorem compS_all {α : Type} {v s : Nat} {ms : M Vl} {m : M Vl} {E : En} {sl : List (Option Vl)} {ce : List Ce} (xs : List α) (h : α → Dt) (F : α → Dt) (hi : ms E = some (.c s, ⟨sl, ce⟩)) (hc : ∀ gs : List Ce, lstS (ce ++ gs) (.c s) = some (xs.map h)) (hv : v < sl.length) (hn : xs.length < 90000)
    (hs : ∀ a ∈ xs, ∀ (c : Ce) (gs : List Ce), ∃ r E3 gs'', m ⟨sl.set v (some (.d (h a))), ce ++ [c] ++ gs⟩ = some (r, E3) ∧ fzM r E3 = some (F a, ⟨sl.set v (some (.d (h a))), ce ++ [c] ++ gs''⟩)) :
    ∃ gs, compSM [v] ms (nameG v) (retM true) m E = some (.c ce.length, ⟨sl, ce ++ [.lst (xs.map F)] ++ gs⟩) := by
  have h := compS_map (t := retM true) (m := m) xs h (fun _ => true) F hi hc hv hn fun a ha c gs => ⟨gs, rfl, fun _ => hs a ha c gs⟩
  rw [List.filter_eq_self.mpr fun _ _ => rfl] at h
  exact h
end Hk
namespace K06
open PySem PySem.Spec PyProof.Rows L2 Evl Hk LamX
/-! ### the text by places -/
def topS (i : Nat) : Stmt := PySem.Challenge.pw_boxfall_k06_parts_of_sayings.main.body.getD i (.Pass ⟨0, 0, 0, 0⟩)
abbrev s_is_small : Stmt := topS 10
abbrev N_is_small : List Str := ["sign"]
theorem sc_is_small : FnScope N_is_small ["sign"] (defScope s_is_small) := ⟨rfl, rfl, rfl, by decide +kernel, rfl, by decide +kernel, by decide +kernel⟩
abbrev s_is_word : Stmt := topS 11
abbrev N_is_word : List Str := ["thing", "sign"]
theorem sc_is_word : FnScope N_is_word ["thing"] (defScope s_is_word) := ⟨rfl, rfl, rfl, by decide +kernel, rfl, by decide +kernel, by decide +kernel⟩
abbrev s_is_name : Stmt := topS 12
abbrev N_is_name : List Str := ["thing"]
theorem sc_is_name : FnScope N_is_name ["thing"] (defScope s_is_name) := ⟨rfl, rfl, rfl, by decide +kernel, rfl, by decide +kernel, by decide +kernel⟩
abbrev s_is_who : Stmt := topS 13
abbrev N_is_who : List Str := ["thing"]
theorem sc_is_who : FnScope N_is_who ["thing"] (defScope s_is_who) := ⟨rfl, rfl, rfl, by decide +kernel, rfl, by decide +kernel, by decide +kernel⟩
abbrev s_wrong_in : Stmt := topS 14
abbrev N_wrong_in : List Str := ["item", "word", "at"]
theorem sc_wrong_in : FnScope N_wrong_in ["item"] (defScope s_wrong_in) := ⟨rfl, rfl, rfl, by decide +kernel, rfl, by decide +kernel, by decide +kernel⟩
abbrev s_items_of : Stmt := topS 16
abbrev N_items_of : List Str := ["form", "items", "steps", "todo", "item", "outer", "at", "wrong", "below"]
theorem sc_items_of : FnScope N_items_of ["form"] (defScope s_items_of) := ⟨rfl, rfl, rfl, by decide +kernel, rfl, by decide +kernel, by decide +kernel⟩
abbrev s_built : Stmt := topS 17
abbrev N_built : List Str := ["items", "signs", "made", "item", "many", "sign"]
theorem sc_built : FnScope N_built ["items"] (defScope s_built) := ⟨rfl, rfl, rfl, by decide +kernel, rfl, by decide +kernel, by decide +kernel⟩
abbrev s_signs_of : Stmt := topS 18
abbrev N_signs_of : List Str := ["form"]
theorem sc_signs_of : FnScope N_signs_of ["form"] (defScope s_signs_of) := ⟨rfl, rfl, rfl, by decide +kernel, rfl, by decide +kernel, by decide +kernel⟩
abbrev s_signs_in : Stmt := topS 19
abbrev N_signs_in : List Str := ["form", "signs", "todo", "sign", "at"]
theorem sc_signs_in : FnScope N_signs_in ["form"] (defScope s_signs_in) := ⟨rfl, rfl, rfl, by decide +kernel, rfl, by decide +kernel, by decide +kernel⟩
abbrev s_text_with : Stmt := topS 25
abbrev N_text_with : List Str := ["sign", "inner", "word"]
theorem sc_text_with : FnScope N_text_with ["sign", "inner"] (defScope s_text_with) := ⟨rfl, rfl, rfl, by decide +kernel, rfl, by decide +kernel, by decide +kernel⟩
abbrev s_texts_of : Stmt := topS 26
abbrev N_texts_of : List Str := ["signs", "texts", "made", "sign", "inner", "text", "_"]
theorem sc_texts_of : FnScope N_texts_of ["signs"] (defScope s_texts_of) := ⟨rfl, rfl, rfl, by decide +kernel, rfl, by decide +kernel, by decide +kernel⟩
abbrev s_outline_of : Stmt := topS 36
abbrev N_outline_of : List Str := ["form", "outline", "todo", "sign"]
theorem sc_outline_of : FnScope N_outline_of ["form"] (defScope s_outline_of) := ⟨rfl, rfl, rfl, by decide +kernel, rfl, by decide +kernel, by decide +kernel⟩
abbrev s_Saying___init__ : Stmt := inClass (topS 38) 0
abbrev N_Saying___init__ : List Str := ["self", "form"]
theorem sc_Saying___init__ : FnScope N_Saying___init__ ["self", "form"] (defScope s_Saying___init__) := ⟨rfl, rfl, rfl, by decide +kernel, rfl, by decide +kernel, by decide +kernel⟩
abbrev s_Saying_text : Stmt := inClass (topS 38) 3
abbrev N_Saying_text : List Str := ["self"]
theorem sc_Saying_text : FnScope N_Saying_text ["self"] (defScope s_Saying_text) := ⟨rfl, rfl, rfl, by decide +kernel, rfl, by decide +kernel, by decide +kernel⟩
abbrev s_Saying_letters : Stmt := inClass (topS 38) 4
abbrev N_Saying_letters : List Str := ["self", "sign"]
theorem sc_Saying_letters : FnScope N_Saying_letters ["self"] (defScope s_Saying_letters) := ⟨rfl, rfl, rfl, by decide +kernel, rfl, by decide +kernel, by decide +kernel⟩
abbrev s_Saying_acts : Stmt := inClass (topS 38) 5
abbrev N_Saying_acts : List Str := ["self", "sign"]
theorem sc_Saying_acts : FnScope N_Saying_acts ["self"] (defScope s_Saying_acts) := ⟨rfl, rfl, rfl, by decide +kernel, rfl, by decide +kernel, by decide +kernel⟩
abbrev s_Saying_boxes : Stmt := inClass (topS 38) 6
abbrev N_Saying_boxes : List Str := ["self", "texts", "found", "text", "sign"]
theorem sc_Saying_boxes : FnScope N_Saying_boxes ["self"] (defScope s_Saying_boxes) := ⟨rfl, rfl, rfl, by decide +kernel, rfl, by decide +kernel, by decide +kernel⟩
abbrev s_Saying_is_boxed : Stmt := inClass (topS 38) 7
abbrev N_Saying_is_boxed : List Str := ["self", "word", "_"]
theorem sc_Saying_is_boxed : FnScope N_Saying_is_boxed ["self"] (defScope s_Saying_is_boxed) := ⟨rfl, rfl, rfl, by decide +kernel, rfl, by decide +kernel, by decide +kernel⟩
abbrev s__law_stream : Stmt := topS 40
abbrev N__law_stream : List Str := ["_law_script", "_law_k", "_law_cell"]
theorem sc__law_stream : FnScope N__law_stream ["_law_script", "_law_k"] (defScope s__law_stream) := ⟨rfl, rfl, rfl, by decide +kernel, rfl, by decide +kernel, by decide +kernel⟩
abbrev s__law_draw : Stmt := topS 41
abbrev N__law_draw : List Str := ["_law_stream_here", "_law_many", "_law_digit", "_law_spread"]
theorem sc__law_draw : FnScope N__law_draw ["_law_stream_here", "_law_many"] (defScope s__law_draw) := ⟨rfl, rfl, rfl, by decide +kernel, rfl, by decide +kernel, by decide +kernel⟩
abbrev s__law_pick : Stmt := topS 42
abbrev N__law_pick : List Str := ["_law_stream_here", "_law_things"]
theorem sc__law_pick : FnScope N__law_pick ["_law_stream_here", "_law_things"] (defScope s__law_pick) := ⟨rfl, rfl, rfl, by decide +kernel, rfl, by decide +kernel, by decide +kernel⟩
abbrev s__law_text : Stmt := topS 43
abbrev N__law_text : List Str := ["_law_form", "_law_kind", "_law_sign"]
theorem sc__law_text : FnScope N__law_text ["_law_form"] (defScope s__law_text) := ⟨rfl, rfl, rfl, by decide +kernel, rfl, by decide +kernel, by decide +kernel⟩
abbrev s__law_inner : Stmt := topS 44
abbrev N__law_inner : List Str := ["_law_form"]
theorem sc__law_inner : FnScope N__law_inner ["_law_form"] (defScope s__law_inner) := ⟨rfl, rfl, rfl, by decide +kernel, rfl, by decide +kernel, by decide +kernel⟩
abbrev s__law_all : Stmt := topS 45
abbrev N__law_all : List Str := ["_law_form", "_law_found", "_law_part"]
theorem sc__law_all : FnScope N__law_all ["_law_form"] (defScope s__law_all) := ⟨rfl, rfl, rfl, by decide +kernel, rfl, by decide +kernel, by decide +kernel⟩
abbrev s__law_atoms : Stmt := topS 46
abbrev N__law_atoms : List Str := ["_law_found"]
theorem sc__law_atoms : FnScope N__law_atoms [] (defScope s__law_atoms) := ⟨rfl, rfl, rfl, by decide +kernel, rfl, by decide +kernel, by decide +kernel⟩
abbrev s__law_free : Stmt := topS 47
abbrev N__law_free : List Str := ["_law_stream_here", "_law_atoms_here", "_law_size", "_law_kind", "_law_first"]
theorem sc__law_free : FnScope N__law_free ["_law_stream_here", "_law_atoms_here", "_law_size"] (defScope s__law_free) := ⟨rfl, rfl, rfl, by decide +kernel, rfl, by decide +kernel, by decide +kernel⟩
abbrev s__law_open : Stmt := topS 48
abbrev N__law_open : List Str := ["_law_form", "_law_part"]
theorem sc__law_open : FnScope N__law_open ["_law_form"] (defScope s__law_open) := ⟨rfl, rfl, rfl, by decide +kernel, rfl, by decide +kernel, by decide +kernel⟩
abbrev s_law : Stmt := topS 49
abbrev N_law : List Str := ["_law_script", "_law_turn", "_law_stream_here", "_law_form", "_law_saying", "_law_parts", "_law_letters", "_law_acts", "_law_texts", "_law_again", "_law_found", "_law_part", "_law_box"]
theorem sc_law : FnScope N_law ["_law_script"] (defScope s_law) := ⟨rfl, rfl, rfl, by decide +kernel, rfl, by decide +kernel, by decide +kernel⟩
def k_FORMS_IN : List (Str × Dt) := [("yes", (.int 0)), ("no", (.int 0)), ("letter", (.int 0)), ("act", (.int 0)), ("not", (.int 1)), ("and", (.int 2)), ("or", (.int 2)), ("if", (.int 2)), ("box", (.int 1))]
def k_TOLD : Dt := .tup [(.str "letter"), (.str "act"), (.str "box")]
def k_AHEAD : List (Str × Dt) := [("not", (.str "~")), ("box", (.str "#"))]
def k_BETWEEN : List (Str × Dt) := [("and", (.str " & ")), ("or", (.str " | ")), ("if", (.str " > "))]
def k_WORDS_IN : List (Str × Dt) := [("yes", (.int 0)), ("no", (.int 0)), ("letter", (.int 1)), ("act", (.int 2)), ("not", (.int 0)), ("and", (.int 0)), ("or", (.int 0)), ("if", (.int 0)), ("box", (.int 0))]
def k_KEPT_WORDS : Dt := .tup [(.str "yes"), (.str "no"), (.str "me"), (.str "him"), (.str "x")]
/-! ### what each def does -/
def m_is_small : En → Option Rs :=
  (retS (chainV (op2 leSF) (op2 leSF) (retM (.d (.str "a"))) (vM 0) (retM (.d (.str "z")))))
def f_is_small : Fn := fnOf 0 (m_is_small)
def m_is_word (g_is_small : Fn) : En → Option Rs :=
  (seqS (ifS (orM (notM (bindM (bindM (vM 0) (seeF (isiF "str"))) truM)) (notM (bindM (chainV (op2 leF) (op2 leF) (retM (.d (.int 1))) (bindM (consM (vM 0) (retM [])) (fn1 lenD)) (retM (.d (.int 8)))) boolM)))
    (retS (retM (.d (.bl false))))
    nilS)
    (retS (bindM (consM (compM [1] (strM (vM 0)) (nameG 1) (retM true) (callM g_is_small (consM (fzV (vM 1)) (retM [])))) (retM [])) (fn1 allD))))
def f_is_word (g_is_small : Fn) : Fn := fnOf 1 (m_is_word g_is_small)
def m_is_name (g_is_word : Fn) : En → Option Rs :=
  (retS (andV (callM g_is_word (consM (fzV (vM 0)) (retM []))) (bindM (vM 0) fun x => bindM (retM (.d k_KEPT_WORDS)) (op2 (inF true) x))))
def f_is_name (g_is_word : Fn) : Fn := fnOf 0 (m_is_name g_is_word)
def m_is_who (g_is_word : Fn) : En → Option Rs :=
  (retS (andV (callM g_is_word (consM (fzV (vM 0)) (retM []))) (orV (bindM (vM 0) fun x => bindM (tupM (consM (retM (.d (.str "me"))) (consM (retM (.d (.str "him"))) (retM [])))) (op2 (inF false) x)) (bindM (vM 0) fun x => bindM (retM (.d k_KEPT_WORDS)) (op2 (inF true) x)))))
def f_is_who (g_is_word : Fn) : Fn := fnOf 0 (m_is_who g_is_word)
def m_wrong_in (g_is_name g_is_who : Fn) : En → Option Rs :=
  (seqS (ifS (orM (notM (bindM (bindM (vM 0) (seeF (isi2F "tuple" "list"))) truM)) (orM (bindM (bindM (bindM (consM (vM 0) (retM [])) (fn1 lenD)) fun x => bindM (retM (.d (.int 0))) (op2 eqF x)) boolM) (notM (bindM (bindM (bindM (vM 0) fun x => bindM (retM (.d (.int 0))) (ixF x)) (seeF (isiF "str"))) truM))))
    (retS (tupM (retM [])))
    nilS)
    (seqS (setS 1 (bindM (vM 0) fun x => bindM (retM (.d (.int 0))) (ixF x)))
    (seqS (ifS (orM (bindM (inDM true k_FORMS_IN (vM 1)) boolM) (bindM (bindM (bindM (consM (vM 0) (retM [])) (fn1 lenD)) fun x => bindM (bindM (bindM (retM (.d (.int 1))) fun x => bindM (ixDM k_WORDS_IN (vM 1)) (addF x)) fun x => bindM (ixDM k_FORMS_IN (vM 1)) (addF x)) (op2 neF x)) boolM))
    (retS (tupM (retM [])))
    nilS)
    (seqS (ifS (andM (bindM (bindM (vM 1) fun x => bindM (retM (.d (.str "letter"))) (op2 eqF x)) boolM) (notM (bindM (callM g_is_name (consM (fzV (bindM (vM 0) fun x => bindM (retM (.d (.int 1))) (ixF x))) (retM []))) truM)))
    (retS (tupM (consM (retM (.d (.int 1))) (retM []))))
    nilS)
    (seqS (ifS (bindM (bindM (vM 1) fun x => bindM (retM (.d (.str "act"))) (op2 eqF x)) boolM)
    (forS (itemsM (tupM (consM (retM (.d (.int 1))) (consM (retM (.d (.int 2))) (retM []))))) (nameG 2)
    (ifS (notM (bindM (callM g_is_who (consM (fzV (bindM (vM 0) fun x => bindM (vM 2) (ixF x))) (retM []))) truM))
    (retS (tupM (consM (vM 2) (retM []))))
    nilS))
    nilS)
    (retS (retM (.d .non))))))))
def f_wrong_in (g_is_name g_is_who : Fn) : Fn := fnOf 2 (m_wrong_in g_is_name g_is_who)
def m_items_of (g_wrong_in : Fn) : En → Option Rs :=
  (seqS (setS 1 (lstM (retM [])))
    (seqS (setS 2 (lstM (retM [])))
    (seqS (setS 3 (lstM (consM (tupM (consM (vM 0) (consM (negM (retM (.d (.int 1)))) (consM (retM (.d (.int 0))) (retM []))))) (retM []))))
    (seqS (whileS (bindM (vM 3) truM)
    (seqS (asgS (bmM "list" (vM 3) (retM []) popF) (tupG [(nameG 4), (nameG 5), (nameG 6)]))
    (seqS (dropS (bmM "list" (vM 2) (consM (tupM (consM (vM 5) (consM (vM 6) (retM [])))) (retM [])) appF))
    (seqS (setS 7 (callM g_wrong_in (consM (fzV (vM 4)) (retM []))))
    (seqS (ifS (bindM (bindM (vM 7) fun x => bindM (retM (.d .non)) (op2 (isNF true) x)) boolM)
    (fun _ => none)
    nilS)
    (seqS (ifS (bindM (bindM (bindM (consM (vM 1) (retM [])) (fn1 lenD)) fun x => bindM (retM (.d (.int 100000))) (op2 eqF x)) boolM)
    (fun _ => none)
    nilS)
    (seqS (forS (rng3M (consM (ixDM k_FORMS_IN (bindM (vM 4) fun x => bindM (retM (.d (.int 0))) (ixF x))) (consM (retM (.d (.int 0))) (consM (negM (retM (.d (.int 1)))) (retM []))))) (nameG 8)
    (dropS (bmM "list" (vM 3) (consM (tupM (consM (bindM (vM 4) fun x => bindM (vM 8) (ixF x)) (consM (bindM (consM (vM 1) (retM [])) (fn1 lenD)) (consM (vM 8) (retM []))))) (retM [])) appF)))
    (dropS (bmM "list" (vM 1) (consM (vM 4) (retM [])) appF)))))))) 100000)
    (retS (vM 1))))))
def f_items_of (g_wrong_in : Fn) : Fn := fnOf 8 (m_items_of g_wrong_in)
def m_built : En → Option Rs :=
  (seqS (setS 1 (lstM (retM [])))
    (seqS (setS 2 (lstM (retM [])))
    (seqS (forS (itemsM (revM (vM 0))) (nameG 3)
    (seqS (setS 4 (ixDM k_FORMS_IN (bindM (vM 3) fun x => bindM (retM (.d (.int 0))) (ixF x))))
    (seqS (ifS (bindM (bindM (vM 4) fun x => bindM (retM (.d (.int 0))) (op2 eqF x)) boolM)
    (setS 5 (bindM (consM (vM 3) (retM [])) (tupleF)))
    (ifS (bindM (bindM (vM 4) fun x => bindM (retM (.d (.int 1))) (op2 eqF x)) boolM)
    (setS 5 (tupM (consM (bindM (vM 3) fun x => bindM (retM (.d (.int 0))) (ixF x)) (consM (bmM "list" (vM 2) (retM []) popF) (retM [])))))
    (setS 5 (tupM (consM (bindM (vM 3) fun x => bindM (retM (.d (.int 0))) (ixF x)) (consM (bmM "list" (vM 2) (retM []) popF) (consM (bmM "list" (vM 2) (retM []) popF) (retM []))))))))
    (seqS (dropS (bmM "list" (vM 2) (consM (vM 5) (retM [])) appF))
    (dropS (bmM "list" (vM 1) (consM (vM 5) (retM [])) appF))))))
    (retS (revM (vM 1))))))
def f_built : Fn := fnOf 5 (m_built)
def m_signs_of (g_built g_items_of : Fn) : En → Option Rs :=
  (retS (callM g_built (consM (fzV (callM g_items_of (consM (fzV (vM 0)) (retM [])))) (retM []))))
def f_signs_of (g_built g_items_of : Fn) : Fn := fnOf 0 (m_signs_of g_built g_items_of)
def m_signs_in : En → Option Rs :=
  (seqS (setS 1 (lstM (retM [])))
    (seqS (setS 2 (lstM (consM (vM 0) (retM []))))
    (seqS (whileS (bindM (vM 2) truM)
    (seqS (setS 3 (bmM "list" (vM 2) (retM []) popF))
    (seqS (dropS (bmM "list" (vM 1) (consM (vM 3) (retM [])) appF))
    (dropS (bmM "list" (vM 2) (consM (compM [4] (rng3M (consM (ixDM k_FORMS_IN (bindM (vM 3) fun x => bindM (retM (.d (.int 0))) (ixF x))) (consM (retM (.d (.int 0))) (consM (negM (retM (.d (.int 1)))) (retM []))))) (nameG 4) (retM true) (bindM (vM 3) fun x => bindM (vM 4) (ixF x))) (retM [])) extF2)))) 100000)
    (retS (vM 1)))))
def f_signs_in : Fn := fnOf 4 (m_signs_in)
def m_text_with : En → Option Rs :=
  (seqS (setS 2 (bindM (vM 0) fun x => bindM (retM (.d (.int 0))) (ixF x)))
    (seqS (ifS (bindM (bindM (vM 2) fun x => bindM (retM (.d (.str "letter"))) (op2 eqF x)) boolM)
    (retS (bindM (vM 0) fun x => bindM (retM (.d (.int 1))) (ixF x)))
    nilS)
    (seqS (ifS (bindM (bindM (vM 2) fun x => bindM (retM (.d (.str "act"))) (op2 eqF x)) boolM)
    (retS (jsM [(fmtM (bindM (vM 0) fun x => bindM (retM (.d (.int 1))) (ixF x))), (retM (.d (.str "-"))), (fmtM (bindM (vM 0) fun x => bindM (retM (.d (.int 2))) (ixF x)))] Str.empty))
    nilS)
    (seqS (ifS (bindM (inAM false k_AHEAD (vM 2)) boolM)
    (retS (bindM (ixDM k_AHEAD (vM 2)) fun x => bindM (bindM (vM 1) fun x => bindM (retM (.d (.int 0))) (ixF x)) (addF x)))
    nilS)
    (seqS (ifS (bindM (inAM false k_BETWEEN (vM 2)) boolM)
    (retS (jsM [(retM (.d (.str "("))), (fmtM (bindM (vM 1) fun x => bindM (retM (.d (.int 0))) (ixF x))), (fmtM (ixDM k_BETWEEN (vM 2))), (fmtM (bindM (vM 1) fun x => bindM (retM (.d (.int 1))) (ixF x))), (retM (.d (.str ")")))] Str.empty))
    nilS)
    (retS (vM 2)))))))
def f_text_with : Fn := fnOf 1 (m_text_with)
def m_texts_of (g_text_with : Fn) : En → Option Rs :=
  (seqS (setS 1 (lstM (retM [])))
    (seqS (setS 2 (lstM (retM [])))
    (seqS (forS (itemsM (revM (vM 0))) (nameG 3)
    (seqS (setS 4 (compM [6] (rng1M (consM (ixDM k_FORMS_IN (bindM (vM 3) fun x => bindM (retM (.d (.int 0))) (ixF x))) (retM []))) (nameG 6) (retM true) (bmM "list" (vM 2) (retM []) popF)))
    (seqS (setS 5 (callM g_text_with (consM (fzV (vM 3)) (consM (fzV (vM 4)) (retM [])))))
    (seqS (dropS (bmM "list" (vM 2) (consM (vM 5) (retM [])) appF))
    (dropS (bmM "list" (vM 1) (consM (vM 5) (retM [])) appF))))))
    (retS (revM (vM 1))))))
def f_texts_of (g_text_with : Fn) : Fn := fnOf 6 (m_texts_of g_text_with)
def m_outline_of (g_texts_of g_signs_in : Fn) : En → Option Rs :=
  (seqS (setS 1 (lstM (retM [])))
    (seqS (setS 2 (lstM (consM (vM 0) (retM []))))
    (seqS (whileS (bindM (vM 2) truM)
    (seqS (setS 3 (bmM "list" (vM 2) (retM []) popF))
    (ifS (bindM (bindM (bindM (vM 3) fun x => bindM (retM (.d (.int 0))) (ixF x)) fun x => bindM (retM (.d k_TOLD)) (op2 (inF false) x)) boolM)
    (dropS (bmM "list" (vM 1) (consM (tupM (consM (bindM (vM 3) fun x => bindM (retM (.d (.int 0))) (ixF x)) (consM (bindM (callM g_texts_of (consM (fzV (callM g_signs_in (consM (fzV (vM 3)) (retM [])))) (retM []))) fun x => bindM (retM (.d (.int 0))) (ixF x)) (retM [])))) (retM [])) appF))
    (seqS (dropS (bmM "list" (vM 1) (consM (tupM (consM (bindM (vM 3) fun x => bindM (retM (.d (.int 0))) (ixF x)) (consM (retM (.d (.str ""))) (retM [])))) (retM [])) appF))
    (dropS (bmM "list" (vM 2) (consM (backM (vM 3)) (retM [])) extF2))))) 100000)
    (retS (vM 1)))))
def f_outline_of (g_texts_of g_signs_in : Fn) : Fn := fnOf 3 (m_outline_of g_texts_of g_signs_in)
def m_Saying___init__ (g_signs_of : Fn) : En → Option Rs :=
  (seqS (setFS "Saying" "_signs" (callM g_signs_of (consM (fzV (vM 1)) (retM []))) (vM 0))
    (setFS "Saying" "_form" (bindM (fldM "Saying" "_signs" (vM 0)) fun x => bindM (retM (.d (.int 0))) (ixF x)) (vM 0)))
def f_Saying___init__ (g_signs_of : Fn) : Fn := fnOf 0 (m_Saying___init__ g_signs_of)
def m_Saying_text (g_texts_of : Fn) : En → Option Rs :=
  (retS (bindM (callM g_texts_of (consM (fzV (fldM "Saying" "_signs" (vM 0))) (retM []))) fun x => bindM (retM (.d (.int 0))) (ixF x)))
def f_Saying_text (g_texts_of : Fn) : Fn := fnOf 0 (m_Saying_text g_texts_of)
def m_Saying_letters : En → Option Rs :=
  (retS (sortPM 1 (fun d => ((ixD d (.int 0)).bind fun x => eqF x (.str "letter")).bind blD) (fun d => ixD d (.int 1)) (itemsM (fldM "Saying" "_signs" (vM 0)))))
def f_Saying_letters : Fn := fnOf 1 (m_Saying_letters)
def m_Saying_acts : En → Option Rs :=
  (retS (sortPW 1 (fun d => ((ixD d (.int 0)).bind fun x => eqF x (.str "act")).bind blD) (fun d => pairF (ixD d (.int 1)) (ixD d (.int 2))) (itemsM (fldM "Saying" "_signs" (vM 0)))))
def f_Saying_acts : Fn := fnOf 1 (m_Saying_acts)
def m_Saying_boxes (g_texts_of g_Saying___init__ : Fn) : En → Option Rs :=
  (seqS (setS 1 (callM g_texts_of (consM (fzV (fldM "Saying" "_signs" (vM 0))) (retM []))))
    (seqS (setS 2 (dcompM [3, 4] (zipM (consM (vM 1) (consM (fldM "Saying" "_signs" (vM 0)) (retM [])))) (tupG [(nameG 3), (nameG 4)]) (bindM (bindM (bindM (vM 4) fun x => bindM (retM (.d (.int 0))) (ixF x)) fun x => bindM (retM (.d (.str "box"))) (op2 eqF x)) boolM) (vM 3) (vM 4)))
    (retS (compM [3] (itemsM (bindM (consM (vM 2) (retM [])) sortDF)) (nameG 3) (retM true) (makeM "Saying" g_Saying___init__ (consM (fzV (dgM (vM 2) (vM 3))) (retM [])))))))
def f_Saying_boxes (g_texts_of g_Saying___init__ : Fn) : Fn := fnOf 4 (m_Saying_boxes g_texts_of g_Saying___init__)
def m_Saying_is_boxed (g_outline_of : Fn) : En → Option Rs :=
  (retS (bindM (consM (compM [1, 2] (itemsM (callM g_outline_of (consM (fzV (fldM "Saying" "_form" (vM 0))) (retM [])))) (tupG [(nameG 1), (nameG 2)]) (retM true) (bindM (vM 1) fun x => bindM (tupM (consM (retM (.d (.str "letter"))) (consM (retM (.d (.str "act"))) (retM [])))) (op2 (inF true) x))) (retM [])) (fn1 allD)))
def f_Saying_is_boxed (g_outline_of : Fn) : Fn := fnOf 2 (m_Saying_is_boxed g_outline_of)
def m__law_stream : En → Option Rs :=
  (seqS (setS 2 (ifM (bindM (bindM (vM 1) fun x => bindM (bindM (consM (vM 0) (retM [])) (fn1 lenD)) (op2 ltF x)) boolM) (bindM (consM (bindM (vM 0) fun x => bindM (vM 1) (ixF x)) (retM [])) (fn1 absD)) (retM (.d (.int 0)))))
    (retS (lstM (consM (ifM (bindM (bindM (vM 2) fun x => bindM (bindM (retM (.d (.int 10))) fun x => bindM (retM (.d (.int 18))) (op2 powF x)) (op2 geF x)) boolM) (vM 2) (retM (.d (.int 0)))) (consM (bindM (bindM (bindM (consM (vM 2) (retM [])) (fn1 intD)) fun x => bindM (retM (.d (.int 2147483647))) (op2 modF x)) fun x => bindM (bindM (retM (.d (.int 31))) fun x => bindM (vM 1) (mulF x)) (addF x)) (consM (retM (.d (.int 0))) (retM [])))))))
def f__law_stream : Fn := fnOf 1 (m__law_stream)
def m__law_draw : En → Option Rs :=
  (seqS (ifS (bindM (bindM (bindM (vM 0) fun x => bindM (retM (.d (.int 0))) (ixF x)) fun x => bindM (retM (.d (.int 0))) (op2 gtF x)) boolM)
    (seqS (setS 2 (bindM (bindM (consM (bindM (vM 0) fun x => bindM (retM (.d (.int 0))) (ixF x)) (retM [])) (fn1 intD)) fun x => bindM (vM 1) (op2 modF x)))
    (seqS (setIS (bindM (bindM (vM 0) fun x => bindM (retM (.d (.int 0))) (ixF x)) fun x => bindM (vM 1) (op2 fdivF x)) (vM 0) (retM (.d (.int 0))))
    (retS (vM 2))))
    nilS)
    (seqS (setIS (bindM (bindM (vM 0) fun x => bindM (retM (.d (.int 2))) (ixF x)) fun x => bindM (retM (.d (.int 1))) (addF x)) (vM 0) (retM (.d (.int 2))))
    (seqS (setS 3 (bindM (bindM (bindM (consM (bindM (bindM (bindM (vM 0) fun x => bindM (retM (.d (.int 1))) (ixF x)) fun x => bindM (bindM (retM (.d (.int 7919))) fun x => bindM (bindM (vM 0) fun x => bindM (retM (.d (.int 2))) (ixF x)) (mulF x)) (addF x)) fun x => bindM (retM (.d (.int 104729))) (addF x)) (retM [])) (fn1 intD)) fun x => bindM (retM (.d (.int 5))) (op2 powF x)) fun x => bindM (retM (.d (.int 2147483647))) (op2 modF x)))
    (retS (bindM (bindM (bindM (bindM (consM (bindM (bindM (vM 3) fun x => bindM (bindM (vM 0) fun x => bindM (retM (.d (.int 2))) (ixF x)) (addF x)) fun x => bindM (retM (.d (.int 40692))) (mulF x)) (retM [])) (fn1 intD)) fun x => bindM (retM (.d (.int 2147483629))) (op2 modF x)) fun x => bindM (retM (.d (.int 7))) (op2 fdivF x)) fun x => bindM (vM 1) (op2 modF x))))))
def f__law_draw : Fn := fnOf 2 (m__law_draw)
def m__law_pick (g__law_draw : Fn) : En → Option Rs :=
  (retS (bindM (vM 1) fun x => bindM (callM g__law_draw (consM (vM 0) (consM (fzV (bindM (consM (vM 1) (retM [])) (fn1 lenD))) (retM [])))) (ixF x)))
def f__law_pick (g__law_draw : Fn) : Fn := fnOf 0 (m__law_pick g__law_draw)
def m__law_text (g__law_text : Fn) : En → Option Rs :=
  (seqS (setS 1 (bindM (vM 0) fun x => bindM (retM (.d (.int 0))) (ixF x)))
    (seqS (ifS (bindM (bindM (vM 1) fun x => bindM (retM (.d (.str "letter"))) (op2 eqF x)) boolM)
    (retS (bindM (vM 0) fun x => bindM (retM (.d (.int 1))) (ixF x)))
    nilS)
    (seqS (ifS (bindM (bindM (vM 1) fun x => bindM (retM (.d (.str "act"))) (op2 eqF x)) boolM)
    (retS (bindM (bindM (bindM (vM 0) fun x => bindM (retM (.d (.int 1))) (ixF x)) fun x => bindM (retM (.d (.str "-"))) (addF x)) fun x => bindM (bindM (vM 0) fun x => bindM (retM (.d (.int 2))) (ixF x)) (addF x)))
    nilS)
    (seqS (ifS (bindM (bindM (vM 1) fun x => bindM (tupM (consM (retM (.d (.str "not"))) (consM (retM (.d (.str "box"))) (retM [])))) (op2 (inF false) x)) boolM)
    (retS (bindM (ifM (bindM (bindM (vM 1) fun x => bindM (retM (.d (.str "not"))) (op2 eqF x)) boolM) (retM (.d (.str "~"))) (retM (.d (.str "#")))) fun x => bindM (callM g__law_text (consM (fzV (bindM (vM 0) fun x => bindM (retM (.d (.int 1))) (ixF x))) (retM []))) (addF x)))
    nilS)
    (seqS (ifS (bindM (bindM (vM 1) fun x => bindM (tupM (consM (retM (.d (.str "and"))) (consM (retM (.d (.str "or"))) (consM (retM (.d (.str "if"))) (retM []))))) (op2 (inF false) x)) boolM)
    (seqS (setS 2 (dgM (dspM 3 [((retM (.d (.str "and"))), (retM (.d (.str " & ")))), ((retM (.d (.str "or"))), (retM (.d (.str " | ")))), ((retM (.d (.str "if"))), (retM (.d (.str " > "))))]) (vM 1)))
    (retS (bindM (bindM (bindM (bindM (retM (.d (.str "("))) fun x => bindM (callM g__law_text (consM (fzV (bindM (vM 0) fun x => bindM (retM (.d (.int 1))) (ixF x))) (retM []))) (addF x)) fun x => bindM (vM 2) (addF x)) fun x => bindM (callM g__law_text (consM (fzV (bindM (vM 0) fun x => bindM (retM (.d (.int 2))) (ixF x))) (retM []))) (addF x)) fun x => bindM (retM (.d (.str ")"))) (addF x))))
    nilS)
    (retS (vM 1)))))))
def f__law_text : Nat → Fn
  | 0 => fun _ _ => none
  | n + 1 => fnOf 2 (m__law_text (f__law_text n))
def m__law_inner : En → Option Rs :=
  (retS (ifM (bindM (bindM (bindM (vM 0) fun x => bindM (retM (.d (.int 0))) (ixF x)) fun x => bindM (tupM (consM (retM (.d (.str "yes"))) (consM (retM (.d (.str "no"))) (consM (retM (.d (.str "letter"))) (consM (retM (.d (.str "act"))) (retM [])))))) (op2 (inF false) x)) boolM) (tupM (retM [])) (bindM (vM 0) fun x => bindM (partM (retM (.d (.int 1)))) fun l => bindM (retM none) fun h => slF x l h)))
def f__law_inner : Fn := fnOf 0 (m__law_inner)
def m__law_all (g__law_inner g__law_all : Fn) : En → Option Rs :=
  (seqS (setS 1 (lstM (consM (vM 0) (retM []))))
    (seqS (forS (itemsM (callM g__law_inner (consM (fzV (vM 0)) (retM [])))) (nameG 2)
    (dropS (bmM "list" (vM 1) (consM (callM g__law_all (consM (fzV (vM 2)) (retM []))) (retM [])) extF2)))
    (retS (vM 1))))
def f__law_all (g__law_inner : Fn) : Nat → Fn
  | 0 => fun _ _ => none
  | n + 1 => fnOf 2 (m__law_all g__law_inner (f__law_all g__law_inner n))
def m__law_atoms : En → Option Rs :=
  (seqS (setS 0 (lstM (consM (tupM (consM (retM (.d (.str "letter"))) (consM (retM (.d (.str "p"))) (retM [])))) (consM (tupM (consM (retM (.d (.str "letter"))) (consM (retM (.d (.str "q"))) (retM [])))) (consM (tupM (consM (retM (.d (.str "letter"))) (consM (retM (.d (.str "word"))) (retM [])))) (consM (tupM (consM (retM (.d (.str "act"))) (consM (retM (.d (.str "me"))) (consM (retM (.d (.str "him"))) (retM []))))) (retM [])))))))
    (retS (bindM (vM 0) fun x => bindM (lstM (consM (tupM (consM (retM (.d (.str "act"))) (consM (retM (.d (.str "him"))) (consM (retM (.d (.str "me"))) (retM []))))) (consM (tupM (consM (retM (.d (.str "act"))) (consM (retM (.d (.str "him"))) (consM (retM (.d (.str "abe"))) (retM []))))) (retM [])))) (addF x))))
def f__law_atoms : Fn := fnOf 1 (m__law_atoms)
def m__law_free (g__law_draw g__law_pick g__law_free : Fn) : En → Option Rs :=
  (seqS (ifS (orM (bindM (bindM (vM 2) fun x => bindM (retM (.d (.int 2))) (op2 ltF x)) boolM) (bindM (bindM (callM g__law_draw (consM (vM 0) (consM (retM (.d (.int 8))) (retM [])))) fun x => bindM (retM (.d (.int 0))) (op2 eqF x)) boolM))
    (retS (callM g__law_pick (consM (vM 0) (consM (fzV (ifM (bindM (bindM (callM g__law_draw (consM (vM 0) (consM (retM (.d (.int 4))) (retM [])))) fun x => bindM (retM (.d (.int 0))) (op2 eqF x)) boolM) (bindM (vM 1) fun x => bindM (lstM (consM (tupM (consM (retM (.d (.str "yes"))) (retM []))) (consM (tupM (consM (retM (.d (.str "no"))) (retM []))) (retM [])))) (addF x)) (vM 1))) (retM [])))))
    nilS)
    (seqS (setS 3 (callM g__law_pick (consM (vM 0) (consM (fzV (lstM (consM (retM (.d (.str "box"))) (consM (retM (.d (.str "box"))) (consM (retM (.d (.str "not"))) (consM (retM (.d (.str "and"))) (consM (retM (.d (.str "or"))) (consM (retM (.d (.str "if"))) (retM []))))))))) (retM [])))))
    (seqS (ifS (orM (bindM (bindM (vM 3) fun x => bindM (tupM (consM (retM (.d (.str "box"))) (consM (retM (.d (.str "not"))) (retM [])))) (op2 (inF false) x)) boolM) (bindM (bindM (vM 2) fun x => bindM (retM (.d (.int 3))) (op2 ltF x)) boolM))
    (seqS (setS 3 (ifM (bindM (bindM (vM 3) fun x => bindM (tupM (consM (retM (.d (.str "box"))) (consM (retM (.d (.str "not"))) (retM [])))) (op2 (inF false) x)) boolM) (vM 3) (retM (.d (.str "box")))))
    (retS (tupM (consM (vM 3) (consM (callM g__law_free (consM (vM 0) (consM (fzV (vM 1)) (consM (fzV (bindM (vM 2) fun x => bindM (retM (.d (.int 1))) (op2 subF x))) (retM []))))) (retM []))))))
    nilS)
    (seqS (setS 4 (bindM (retM (.d (.int 1))) fun x => bindM (callM g__law_draw (consM (vM 0) (consM (fzV (bindM (vM 2) fun x => bindM (retM (.d (.int 2))) (op2 subF x))) (retM [])))) (addF x)))
    (retS (tupM (consM (vM 3) (consM (callM g__law_free (consM (vM 0) (consM (fzV (vM 1)) (consM (fzV (vM 4)) (retM []))))) (consM (callM g__law_free (consM (vM 0) (consM (fzV (vM 1)) (consM (fzV (bindM (bindM (vM 2) fun x => bindM (retM (.d (.int 1))) (op2 subF x)) fun x => bindM (vM 4) (op2 subF x))) (retM []))))) (retM []))))))))))
def f__law_free (g__law_draw g__law_pick : Fn) : Nat → Fn
  | 0 => fun _ _ => none
  | n + 1 => fnOf 2 (m__law_free g__law_draw g__law_pick (f__law_free g__law_draw g__law_pick n))
def m__law_open (g__law_inner g__law_open : Fn) : En → Option Rs :=
  (seqS (ifS (bindM (bindM (bindM (vM 0) fun x => bindM (retM (.d (.int 0))) (ixF x)) fun x => bindM (tupM (consM (retM (.d (.str "letter"))) (consM (retM (.d (.str "act"))) (retM [])))) (op2 (inF false) x)) boolM)
    (retS (retM (.d (.bl true))))
    nilS)
    (retS (andV (bindM (bindM (vM 0) fun x => bindM (retM (.d (.int 0))) (ixF x)) fun x => bindM (retM (.d (.str "box"))) (op2 neF x)) (bindM (consM (compM [1] (itemsM (callM g__law_inner (consM (fzV (vM 0)) (retM [])))) (nameG 1) (retM true) (callM g__law_open (consM (fzV (vM 1)) (retM [])))) (retM [])) (fn1 anyD)))))
def f__law_open (g__law_inner : Fn) : Nat → Fn
  | 0 => fun _ _ => none
  | n + 1 => fnOf 1 (m__law_open g__law_inner (f__law_open g__law_inner n))
def m_law (g__law_stream g__law_free g__law_atoms g__law_all g_Saying___init__ g__law_text g_Saying_boxes g_Saying_acts g_Saying_letters g_Saying_text g_Saying_is_boxed g__law_open : Fn) : En → Option Rs :=
  (seqS (forS (rng1M (consM (retM (.d (.int 8))) (retM []))) (nameG 1)
    (seqS (setS 2 (callM g__law_stream (consM (fzV (vM 0)) (consM (fzV (vM 1)) (retM [])))))
    (seqS (setS 3 (callM g__law_free (consM (vM 2) (consM (fzV (callM g__law_atoms (retM []))) (consM (retM (.d (.int 16))) (retM []))))))
    (seqS (set2S 4 5 (consM (fzV (makeM "Saying" g_Saying___init__ (consM (fzV (vM 3)) (retM [])))) (consM (fzV (callM g__law_all (consM (fzV (vM 3)) (retM [])))) (retM []))))
    (seqS (setS 6 (fzV (sortSM (compM [11] (itemsM (vM 5)) (nameG 11) (bindM (bindM (bindM (vM 11) fun x => bindM (retM (.d (.int 0))) (ixF x)) fun x => bindM (retM (.d (.str "letter"))) (op2 eqF x)) boolM) (bindM (vM 11) fun x => bindM (retM (.d (.int 1))) (ixF x))))))
    (seqS (setS 7 (fzV (sortSWM (compM [11] (itemsM (vM 5)) (nameG 11) (bindM (bindM (bindM (vM 11) fun x => bindM (retM (.d (.int 0))) (ixF x)) fun x => bindM (retM (.d (.str "act"))) (op2 eqF x)) boolM) (bindM (vM 11) fun x => bindM (partM (retM (.d (.int 1)))) fun l => bindM (retM none) fun h => slF x l h)))))
    (seqS (setS 8 (fzV (sortSM (compM [11] (itemsM (vM 5)) (nameG 11) (bindM (bindM (bindM (vM 11) fun x => bindM (retM (.d (.int 0))) (ixF x)) fun x => bindM (retM (.d (.str "box"))) (op2 eqF x)) boolM) (callM g__law_text (consM (fzV (vM 11)) (retM [])))))))
    (seqS (forS (rng1M (consM (retM (.d (.int 2))) (retM []))) (nameG 9)
    (seqS (setS 10 (lstTM (consM (methM "Saying" "letters" g_Saying_letters (vM 4) (retM [])) (consM (methM "Saying" "acts" g_Saying_acts (vM 4) (retM [])) (consM (methM "Saying" "boxes" g_Saying_boxes (vM 4) (retM [])) (retM []))))))
    (seqS (ifS (orM (bindM (bindM (bindM (vM 10) fun x => bindM (retM (.d (.int 0))) (ixTF x)) fun x => bindM (vM 6) (op2 neF x)) boolM) (orM (bindM (bindM (bindM (vM 10) fun x => bindM (retM (.d (.int 1))) (ixTF x)) fun x => bindM (vM 7) (op2 neF x)) boolM) (bindM (bindM (compSM [12] (bindM (vM 10) fun x => bindM (retM (.d (.int 2))) (ixTF x)) (nameG 12) (retM true) (methM "Saying" "text" g_Saying_text (vM 12) (retM []))) fun x => bindM (vM 8) (op2 neF x)) boolM)))
    (retS (retM (.d (.bl false))))
    nilS)
    (seqS (dropS (bmM "list" (bindM (vM 10) fun x => bindM (retM (.d (.int 0))) (ixTF x)) (consM (retM (.d (.str "z"))) (retM [])) appTF))
    (seqS (dropS (bmM "list" (bindM (vM 10) fun x => bindM (retM (.d (.int 1))) (ixTF x)) (retM []) clrTF))
    (dropS (bmM "list" (bindM (vM 10) fun x => bindM (retM (.d (.int 2))) (ixTF x)) (consM (vM 4) (retM [])) appTF)))))))
    (ifS (bindM (bindM (methM "Saying" "is_boxed" g_Saying_is_boxed (vM 4) (retM [])) fun x => bindM (callM g__law_open (consM (fzV (vM 3)) (retM []))) (op2 eqF x)) boolM)
    (retS (retM (.d (.bl false))))
    nilS)))))))))
    (retS (retM (.d (.bl true)))))
def f_law (g__law_stream g__law_free g__law_atoms g__law_all g_Saying___init__ g__law_text g_Saying_boxes g_Saying_acts g_Saying_letters g_Saying_text g_Saying_is_boxed g__law_open : Fn) : Fn := fnOf 12 (m_law g__law_stream g__law_free g__law_atoms g__law_all g_Saying___init__ g__law_text g_Saying_boxes g_Saying_acts g_Saying_letters g_Saying_text g_Saying_is_boxed g__law_open)
/-! ### the names -/
structure Ad where
  a_is_small : Addr
  d_is_small : FuncData
  a_is_word : Addr
  d_is_word : FuncData
  a_is_name : Addr
  d_is_name : FuncData
  a_is_who : Addr
  d_is_who : FuncData
  a_wrong_in : Addr
  d_wrong_in : FuncData
  a_items_of : Addr
  d_items_of : FuncData
  a_built : Addr
  d_built : FuncData
  a_signs_of : Addr
  d_signs_of : FuncData
  a_signs_in : Addr
  d_signs_in : FuncData
  a_text_with : Addr
  d_text_with : FuncData
  a_texts_of : Addr
  d_texts_of : FuncData
  a_outline_of : Addr
  d_outline_of : FuncData
  a_Saying___init__ : Addr
  d_Saying___init__ : FuncData
  a_Saying_text : Addr
  d_Saying_text : FuncData
  a_Saying_letters : Addr
  d_Saying_letters : FuncData
  a_Saying_acts : Addr
  d_Saying_acts : FuncData
  a_Saying_boxes : Addr
  d_Saying_boxes : FuncData
  a_Saying_is_boxed : Addr
  d_Saying_is_boxed : FuncData
  a__law_stream : Addr
  d__law_stream : FuncData
  a__law_draw : Addr
  d__law_draw : FuncData
  a__law_pick : Addr
  d__law_pick : FuncData
  a__law_text : Addr
  d__law_text : FuncData
  a__law_inner : Addr
  d__law_inner : FuncData
  a__law_all : Addr
  d__law_all : FuncData
  a__law_atoms : Addr
  d__law_atoms : FuncData
  a__law_free : Addr
  d__law_free : FuncData
  a__law_open : Addr
  d__law_open : FuncData
  a_law : Addr
  d_law : FuncData
  x_FORMS_IN : Addr
  x_TOLD : Addr
  x_MOST_SIGNS : Value
  x_AHEAD : Addr
  x_BETWEEN : Addr
  x_WORDS_IN : Addr
  x_KEPT_WORDS : Addr
  x_LONGEST_WORD : Value
structure Txt (K : PySem.W.Frag) (w : World) (mg : Str → Option Value) (A : Ad) : Prop where
  o_Saying : OwnC K (clA K "Saying")
  m_Saying : mg "Saying" = some (.ref (clA K "Saying"))
  k_Saying : Mk K (clA K "Saying") A.a_Saying___init__
  n_Saying__form : NoAttr K (clA K "Saying") "_form"
  n_Saying__signs : NoAttr K (clA K "Saying") "_signs"
  x_FORMS_IN : mg "FORMS_IN" = some (.ref A.x_FORMS_IN)
  y_FORMS_IN : WDic K w A.x_FORMS_IN k_FORMS_IN
  x_TOLD : mg "TOLD" = some (.ref A.x_TOLD)
  y_TOLD : ∀ H, Rp K H k_TOLD (.ref A.x_TOLD)
  x_MOST_SIGNS : mg "MOST_SIGNS" = some A.x_MOST_SIGNS ∧ RelV (.int 100000) A.x_MOST_SIGNS
  x_AHEAD : mg "AHEAD" = some (.ref A.x_AHEAD)
  y_AHEAD : WDic K w A.x_AHEAD k_AHEAD
  x_BETWEEN : mg "BETWEEN" = some (.ref A.x_BETWEEN)
  y_BETWEEN : WDic K w A.x_BETWEEN k_BETWEEN
  x_WORDS_IN : mg "WORDS_IN" = some (.ref A.x_WORDS_IN)
  y_WORDS_IN : WDic K w A.x_WORDS_IN k_WORDS_IN
  x_KEPT_WORDS : mg "KEPT_WORDS" = some (.ref A.x_KEPT_WORDS)
  y_KEPT_WORDS : ∀ H, Rp K H k_KEPT_WORDS (.ref A.x_KEPT_WORDS)
  x_LONGEST_WORD : mg "LONGEST_WORD" = some A.x_LONGEST_WORD ∧ RelV (.int 8) A.x_LONGEST_WORD
  F_is_small : Fun K "is_small" "is_small" s_is_small A.a_is_small A.d_is_small
  b_is_small : Binds K A.d_is_small ["sign"] []
  g_is_small : mg "is_small" = some (.ref A.a_is_small)
  F_is_word : Fun K "is_word" "is_word" s_is_word A.a_is_word A.d_is_word
  b_is_word : Binds K A.d_is_word ["thing"] []
  g_is_word : mg "is_word" = some (.ref A.a_is_word)
  F_is_name : Fun K "is_name" "is_name" s_is_name A.a_is_name A.d_is_name
  b_is_name : Binds K A.d_is_name ["thing"] []
  g_is_name : mg "is_name" = some (.ref A.a_is_name)
  F_is_who : Fun K "is_who" "is_who" s_is_who A.a_is_who A.d_is_who
  b_is_who : Binds K A.d_is_who ["thing"] []
  g_is_who : mg "is_who" = some (.ref A.a_is_who)
  F_wrong_in : Fun K "wrong_in" "wrong_in" s_wrong_in A.a_wrong_in A.d_wrong_in
  b_wrong_in : Binds K A.d_wrong_in ["item"] []
  g_wrong_in : mg "wrong_in" = some (.ref A.a_wrong_in)
  F_items_of : Fun K "items_of" "items_of" s_items_of A.a_items_of A.d_items_of
  b_items_of : Binds K A.d_items_of ["form"] []
  g_items_of : mg "items_of" = some (.ref A.a_items_of)
  F_built : Fun K "built" "built" s_built A.a_built A.d_built
  b_built : Binds K A.d_built ["items"] []
  g_built : mg "built" = some (.ref A.a_built)
  F_signs_of : Fun K "signs_of" "signs_of" s_signs_of A.a_signs_of A.d_signs_of
  b_signs_of : Binds K A.d_signs_of ["form"] []
  g_signs_of : mg "signs_of" = some (.ref A.a_signs_of)
  F_signs_in : Fun K "signs_in" "signs_in" s_signs_in A.a_signs_in A.d_signs_in
  b_signs_in : Binds K A.d_signs_in ["form"] []
  g_signs_in : mg "signs_in" = some (.ref A.a_signs_in)
  F_text_with : Fun K "text_with" "text_with" s_text_with A.a_text_with A.d_text_with
  b_text_with : Binds K A.d_text_with ["sign", "inner"] []
  g_text_with : mg "text_with" = some (.ref A.a_text_with)
  F_texts_of : Fun K "texts_of" "texts_of" s_texts_of A.a_texts_of A.d_texts_of
  b_texts_of : Binds K A.d_texts_of ["signs"] []
  g_texts_of : mg "texts_of" = some (.ref A.a_texts_of)
  F_outline_of : Fun K "outline_of" "outline_of" s_outline_of A.a_outline_of A.d_outline_of
  b_outline_of : Binds K A.d_outline_of ["form"] []
  g_outline_of : mg "outline_of" = some (.ref A.a_outline_of)
  F_Saying___init__ : Fun K "__init__" "Saying.__init__" s_Saying___init__ A.a_Saying___init__ A.d_Saying___init__
  b_Saying___init__ : Binds K A.d_Saying___init__ ["self", "form"] []
  F_Saying_text : Fun K "text" "Saying.text" s_Saying_text A.a_Saying_text A.d_Saying_text
  b_Saying_text : Binds K A.d_Saying_text ["self"] []
  g_Saying_text : Meth K (clA K "Saying") "text" A.a_Saying_text
  F_Saying_letters : Fun K "letters" "Saying.letters" s_Saying_letters A.a_Saying_letters A.d_Saying_letters
  b_Saying_letters : Binds K A.d_Saying_letters ["self"] []
  g_Saying_letters : Meth K (clA K "Saying") "letters" A.a_Saying_letters
  F_Saying_acts : Fun K "acts" "Saying.acts" s_Saying_acts A.a_Saying_acts A.d_Saying_acts
  b_Saying_acts : Binds K A.d_Saying_acts ["self"] []
  g_Saying_acts : Meth K (clA K "Saying") "acts" A.a_Saying_acts
  F_Saying_boxes : Fun K "boxes" "Saying.boxes" s_Saying_boxes A.a_Saying_boxes A.d_Saying_boxes
  b_Saying_boxes : Binds K A.d_Saying_boxes ["self"] []
  g_Saying_boxes : Meth K (clA K "Saying") "boxes" A.a_Saying_boxes
  F_Saying_is_boxed : Fun K "is_boxed" "Saying.is_boxed" s_Saying_is_boxed A.a_Saying_is_boxed A.d_Saying_is_boxed
  b_Saying_is_boxed : Binds K A.d_Saying_is_boxed ["self"] []
  g_Saying_is_boxed : Meth K (clA K "Saying") "is_boxed" A.a_Saying_is_boxed
  F__law_stream : Fun K "_law_stream" "_law_stream" s__law_stream A.a__law_stream A.d__law_stream
  b__law_stream : Binds K A.d__law_stream ["_law_script", "_law_k"] []
  g__law_stream : mg "_law_stream" = some (.ref A.a__law_stream)
  F__law_draw : Fun K "_law_draw" "_law_draw" s__law_draw A.a__law_draw A.d__law_draw
  b__law_draw : Binds K A.d__law_draw ["_law_stream_here", "_law_many"] []
  g__law_draw : mg "_law_draw" = some (.ref A.a__law_draw)
  F__law_pick : Fun K "_law_pick" "_law_pick" s__law_pick A.a__law_pick A.d__law_pick
  b__law_pick : Binds K A.d__law_pick ["_law_stream_here", "_law_things"] []
  g__law_pick : mg "_law_pick" = some (.ref A.a__law_pick)
  F__law_text : Fun K "_law_text" "_law_text" s__law_text A.a__law_text A.d__law_text
  b__law_text : Binds K A.d__law_text ["_law_form"] []
  g__law_text : mg "_law_text" = some (.ref A.a__law_text)
  F__law_inner : Fun K "_law_inner" "_law_inner" s__law_inner A.a__law_inner A.d__law_inner
  b__law_inner : Binds K A.d__law_inner ["_law_form"] []
  g__law_inner : mg "_law_inner" = some (.ref A.a__law_inner)
  F__law_all : Fun K "_law_all" "_law_all" s__law_all A.a__law_all A.d__law_all
  b__law_all : Binds K A.d__law_all ["_law_form"] []
  g__law_all : mg "_law_all" = some (.ref A.a__law_all)
  F__law_atoms : Fun K "_law_atoms" "_law_atoms" s__law_atoms A.a__law_atoms A.d__law_atoms
  b__law_atoms : Binds K A.d__law_atoms [] []
  g__law_atoms : mg "_law_atoms" = some (.ref A.a__law_atoms)
  F__law_free : Fun K "_law_free" "_law_free" s__law_free A.a__law_free A.d__law_free
  b__law_free : Binds K A.d__law_free ["_law_stream_here", "_law_atoms_here", "_law_size"] []
  g__law_free : mg "_law_free" = some (.ref A.a__law_free)
  F__law_open : Fun K "_law_open" "_law_open" s__law_open A.a__law_open A.d__law_open
  b__law_open : Binds K A.d__law_open ["_law_form"] []
  g__law_open : mg "_law_open" = some (.ref A.a__law_open)
  F_law : Fun K "law" "law" s_law A.a_law A.d_law
  b_law : Binds K A.d_law ["_law_script"] []
  g_law : mg "law" = some (.ref A.a_law)
  w_AHEAD : ADic K A.x_AHEAD k_AHEAD
  w_BETWEEN : ADic K A.x_BETWEEN k_BETWEEN
  z_abs : mg "abs" = none
  z_all : mg "all" = none
  z_any : mg "any" = none
  z_int : mg "int" = none
  z_isinstance : mg "isinstance" = none
  z_len : mg "len" = none
  z_list : mg "list" = none
  z_range : mg "range" = none
  z_set : mg "set" = none
  z_sorted : mg "sorted" = none
  z_str : mg "str" = none
  z_tuple : mg "tuple" = none
  z_zip : mg "zip" = none
section
variable {P : Program} {w : World} {K : PySem.W.Frag} {mg : Str → Option Value} {base : Heap} {A : Ad}
theorem ok_is_small (T : Txt K w mg A) : FnOk P w K mg base (L2.CX P w) 1 A.a_is_small A.d_is_small ["sign"] (spM K 1 (f_is_small)) :=
  T.F_is_small.okX sc_is_small (spM_len rfl) fun cdv A outer s H vs Q E hr h => body_ok (n := 1) (nl := 0)
    (bone (sret (xchain op_leS op_leS om_leS om_leS leS_bl xstr (xv 0) xstr))) rfl h
theorem ok_is_word (T : Txt K w mg A) {g_is_small : Fn} (G_is_small : FnOk P w K mg base (L2.CX P w) 1 A.a_is_small A.d_is_small ["sign"] (spM K 1 g_is_small)) : FnOk P w K mg base (L2.CX P w) 2 A.a_is_word A.d_is_word ["thing"] (spM K 1 (f_is_word g_is_small)) :=
  T.F_is_word.okX sc_is_word (spM_len rfl) fun cdv A outer s H vs Q E hr h => body_ok (n := 1) (nl := 1)
    (bcons (sif (tbool (wor (tnot (ttru (xisi T.z_isinstance (xv 0) T.z_str (by decide +kernel)))) (wor1 (tnot (tchain op_le op_le om_le om_le le_bl xint (xlen T.z_len (acons (xv 0) anil)) (xgint T.x_LONGEST_WORD.1 T.x_LONGEST_WORD.2))))))
    (bone (sret xbl))
    bnil)
    (bone (sret (xblt (cr_all rfl) cm_all T.z_all (by decide +kernel) (acons (xcomp (own := [("sign", 1)]) rfl sc_is_word.nd (istr (xv 0)) (blkOk_by (own := [("sign", 1)]) (N := N_is_word) (sc := defScope s_is_word) (by decide +kernel)) (fun _ _ _ _ _ => by exact (gcname 1 (by decide) sc_is_word.nd)) (fun _ _ _ _ _ => pnil) (fun _ _ _ _ _ => by apply re_te; (case h => exact (xcall G_is_small (hr.mono (by decide)) T.g_is_small T.F_is_small.kp T.b_is_small (acons (xfz (xv 1)) anil) (cons_len (nil_len rfl) rfl) passF)); (case q => (dsimp only [Cx.blk] <;> rfl)))) anil))))) rfl h
theorem ok_is_name (T : Txt K w mg A) {g_is_word : Fn} (G_is_word : FnOk P w K mg base (L2.CX P w) 2 A.a_is_word A.d_is_word ["thing"] (spM K 1 g_is_word)) : FnOk P w K mg base (L2.CX P w) 3 A.a_is_name A.d_is_name ["thing"] (spM K 1 (f_is_name g_is_word)) :=
  T.F_is_name.okX sc_is_name (spM_len rfl) fun cdv A outer s H vs Q E hr h => body_ok (n := 1) (nl := 0)
    (bone (sret (xand (xcall G_is_word (hr.mono (by decide)) T.g_is_word T.F_is_word.kp T.b_is_word (acons (xfz (xv 0)) anil) (cons_len (nil_len rfl) rfl) passF) (xone (xcmp op_notIn_seq (om_in true) (xv 0) (xgdat T.x_KEPT_WORDS T.y_KEPT_WORDS) (by rfl)))))) rfl h
theorem ok_is_who (T : Txt K w mg A) {g_is_word : Fn} (G_is_word : FnOk P w K mg base (L2.CX P w) 2 A.a_is_word A.d_is_word ["thing"] (spM K 1 g_is_word)) : FnOk P w K mg base (L2.CX P w) 3 A.a_is_who A.d_is_who ["thing"] (spM K 1 (f_is_who g_is_word)) :=
  T.F_is_who.okX sc_is_who (spM_len rfl) fun cdv A outer s H vs Q E hr h => body_ok (n := 1) (nl := 0)
    (bone (sret (xand (xcall G_is_word (hr.mono (by decide)) T.g_is_word T.F_is_word.kp T.b_is_word (acons (xfz (xv 0)) anil) (cons_len (nil_len rfl) rfl) passF) (xone (xor_ (xcmp op_in_seq (om_in false) (xv 0) (xtup (acons xstr (acons xstr anil))) (by rfl)) (xone (xcmp op_notIn_seq (om_in true) (xv 0) (xgdat T.x_KEPT_WORDS T.y_KEPT_WORDS) (by rfl)))))))) rfl h
theorem ok_wrong_in (T : Txt K w mg A) {g_is_name : Fn} (G_is_name : FnOk P w K mg base (L2.CX P w) 3 A.a_is_name A.d_is_name ["thing"] (spM K 1 g_is_name)) {g_is_who : Fn} (G_is_who : FnOk P w K mg base (L2.CX P w) 3 A.a_is_who A.d_is_who ["thing"] (spM K 1 g_is_who)) : FnOk P w K mg base (L2.CX P w) 4 A.a_wrong_in A.d_wrong_in ["item"] (spM K 1 (f_wrong_in g_is_name g_is_who)) :=
  T.F_wrong_in.okX sc_wrong_in (spM_len rfl) fun cdv A outer s H vs Q E hr h => body_ok (n := 1) (nl := 2)
    (bcons (sif (tbool (wor (tnot (ttru (xisi2 T.z_isinstance (xv 0) T.z_tuple T.z_list (by decide +kernel) (by decide +kernel)))) (wor (tcmp (op_eqD hr.units) om_eq (xlen T.z_len (acons (xv 0) anil)) xint (nomark _)) (wor1 (tnot (ttru (xisi T.z_isinstance (xix (xv 0) xint) T.z_str (by decide +kernel))))))))
    (bone (sret (xtup anil)))
    bnil)
    (bcons (sset 1 (xix (xv 0) xint) sc_wrong_in.nd)
    (bcons (sif (tbool (wor (tninD T.y_FORMS_IN T.x_FORMS_IN (xv 1)) (wor1 (tcmp (op_neD hr.units) om_ne (xlen T.z_len (acons (xv 0) anil)) (xop op_addU om_add (xop op_addU om_add xint (xixD T.y_WORDS_IN T.x_WORDS_IN (xv 1))) (xixD T.y_FORMS_IN T.x_FORMS_IN (xv 1))) (nomark _)))))
    (bone (sret (xtup anil)))
    bnil)
    (bcons (sif (tbool (wand (tcmp (op_eqD hr.units) om_eq (xv 1) xstr (nomark _)) (wand1 (tnot (ttru (xcall G_is_name (hr.mono (by decide)) T.g_is_name T.F_is_name.kp T.b_is_name (acons (xfz (xix (xv 0) xint)) anil) (cons_len (nil_len rfl) rfl) passF))))))
    (bone (sret (xtup (acons xint anil))))
    bnil)
    (bcons (sif (tcmp (op_eqD hr.units) om_eq (xv 1) xstr (nomark _))
    (bone (sfor (passes_of rfl) rfl (iseq (xtup (acons xint (acons xint anil)))) (gname 2 sc_wrong_in.nd)
    (bone (sif (tnot (ttru (xcall G_is_who (hr.mono (by decide)) T.g_is_who T.F_is_who.kp T.b_is_who (acons (xfz (xix (xv 0) (xv 2))) anil) (cons_len (nil_len rfl) rfl) passF)))
    (bone (sret (xtup (acons (xv 2) anil))))
    bnil))))
    bnil)
    (bone (sret xnon))))))) rfl h
theorem ok_items_of (T : Txt K w mg A) {g_wrong_in : Fn} (G_wrong_in : FnOk P w K mg base (L2.CX P w) 4 A.a_wrong_in A.d_wrong_in ["item"] (spM K 1 g_wrong_in)) : FnOk P w K mg base (L2.CX P w) 5 A.a_items_of A.d_items_of ["form"] (spM K 1 (f_items_of g_wrong_in)) :=
  T.F_items_of.okX sc_items_of (spM_len rfl) fun cdv A outer s H vs Q E hr h => body_ok (n := 1) (nl := 8)
    (bcons (sset 1 (xlst anil) sc_items_of.nd)
    (bcons (sset 2 (xlst anil) sc_items_of.nd)
    (bcons (sset 3 (xlst (acons (xtup (acons (xv 0) (acons (xneg xint) (acons xint anil)))) anil)) sc_items_of.nd)
    (bcons (swhile 100000 (passes_of rfl) (ttru (xv 3))
    (bcons (sasg (xlm0 PySem.F.slot_list_pop PySem.F.type_list_pop mt_pop mm_pop (xv 3)) (gtupX rfl (gscons (gname 4 sc_items_of.nd) (gscons (gname 5 sc_items_of.nd) (gscons (gname 6 sc_items_of.nd) gsnil))) rfl))
    (bcons (sexpr (xlm PySem.F.slot_list_append PySem.F.type_list_append mt_append mm_append (xv 2) (acons (xtup (acons (xv 5) (acons (xv 6) anil))) anil)))
    (bcons (sset 7 (xcall G_wrong_in (hr.mono (by decide)) T.g_wrong_in T.F_wrong_in.kp T.b_wrong_in (acons (xfz (xv 4)) anil) (cons_len (nil_len rfl) rfl) passF) sc_items_of.nd)
    (bcons (sif (tcmp op_notNoU om_notN (xv 7) xnon (nomark _))
    bnever
    bnil)
    (bcons (sif (tcmp (op_eqD hr.units) om_eq (xlen T.z_len (acons (xv 1) anil)) (xgint T.x_MOST_SIGNS.1 T.x_MOST_SIGNS.2) (nomark _))
    bnever
    bnil)
    (bcons (sfor (passes_of rfl) rfl (irng3 T.z_range (acons (xixD T.y_FORMS_IN T.x_FORMS_IN (xix (xv 4) xint)) (acons xint (acons (xneg xint) anil)))) (gname 8 sc_items_of.nd)
    (bone (sexpr (xlm PySem.F.slot_list_append PySem.F.type_list_append mt_append mm_append (xv 3) (acons (xtup (acons (xix (xv 4) (xv 8)) (acons (xlen T.z_len (acons (xv 1) anil)) (acons (xv 8) anil)))) anil)))))
    (bone (sexpr (xlm PySem.F.slot_list_append PySem.F.type_list_append mt_append mm_append (xv 1) (acons (xv 4) anil)))))))))))
    (bone (sret (xv 1))))))) rfl h
theorem ok_built (T : Txt K w mg A) : FnOk P w K mg base (L2.CX P w) 1 A.a_built A.d_built ["items"] (spM K 1 (f_built)) :=
  T.F_built.okX sc_built (spM_len rfl) fun cdv A outer s H vs Q E hr h => body_ok (n := 1) (nl := 5)
    (bcons (sset 1 (xlst anil) sc_built.nd)
    (bcons (sset 2 (xlst anil) sc_built.nd)
    (bcons (sfor (passes_of rfl) rfl (iseq (xrev (xv 0))) (gname 3 sc_built.nd)
    (bcons (sset 4 (xixD T.y_FORMS_IN T.x_FORMS_IN (xix (xv 3) xint)) sc_built.nd)
    (bcons (sif (tcmp (op_eqD hr.units) om_eq (xv 4) xint (nomark _))
    (bone (sset 5 (xbty call_tupleU cm_tuple T.z_tuple (by decide +kernel) (acons (xv 3) anil)) sc_built.nd))
    (bone (sif (tcmp (op_eqD hr.units) om_eq (xv 4) xint (nomark _))
    (bone (sset 5 (xtup (acons (xix (xv 3) xint) (acons (xlm0 PySem.F.slot_list_pop PySem.F.type_list_pop mt_pop mm_pop (xv 2)) anil))) sc_built.nd))
    (bone (sset 5 (xtup (acons (xix (xv 3) xint) (acons (xlm0 PySem.F.slot_list_pop PySem.F.type_list_pop mt_pop mm_pop (xv 2)) (acons (xlm0 PySem.F.slot_list_pop PySem.F.type_list_pop mt_pop mm_pop (xv 2)) anil)))) sc_built.nd)))))
    (bcons (sexpr (xlm PySem.F.slot_list_append PySem.F.type_list_append mt_append mm_append (xv 2) (acons (xv 5) anil)))
    (bone (sexpr (xlm PySem.F.slot_list_append PySem.F.type_list_append mt_append mm_append (xv 1) (acons (xv 5) anil))))))))
    (bone (sret (xrev (xv 1))))))) rfl h
theorem ok_signs_of (T : Txt K w mg A) {g_built : Fn} (G_built : FnOk P w K mg base (L2.CX P w) 1 A.a_built A.d_built ["items"] (spM K 1 g_built)) {g_items_of : Fn} (G_items_of : FnOk P w K mg base (L2.CX P w) 5 A.a_items_of A.d_items_of ["form"] (spM K 1 g_items_of)) : FnOk P w K mg base (L2.CX P w) 6 A.a_signs_of A.d_signs_of ["form"] (spM K 1 (f_signs_of g_built g_items_of)) :=
  T.F_signs_of.okX sc_signs_of (spM_len rfl) fun cdv A outer s H vs Q E hr h => body_ok (n := 1) (nl := 0)
    (bone (sret (xcall G_built (hr.mono (by decide)) T.g_built T.F_built.kp T.b_built (acons (xfz (xcall G_items_of (hr.mono (by decide)) T.g_items_of T.F_items_of.kp T.b_items_of (acons (xfz (xv 0)) anil) (cons_len (nil_len rfl) rfl) passF)) anil) (cons_len (nil_len rfl) rfl) passF))) rfl h
theorem ok_signs_in (T : Txt K w mg A) : FnOk P w K mg base (L2.CX P w) 1 A.a_signs_in A.d_signs_in ["form"] (spM K 1 (f_signs_in)) :=
  T.F_signs_in.okX sc_signs_in (spM_len rfl) fun cdv A outer s H vs Q E hr h => body_ok (n := 1) (nl := 4)
    (bcons (sset 1 (xlst anil) sc_signs_in.nd)
    (bcons (sset 2 (xlst (acons (xv 0) anil)) sc_signs_in.nd)
    (bcons (swhile 100000 (passes_of rfl) (ttru (xv 2))
    (bcons (sset 3 (xlm0 PySem.F.slot_list_pop PySem.F.type_list_pop mt_pop mm_pop (xv 2)) sc_signs_in.nd)
    (bcons (sexpr (xlm PySem.F.slot_list_append PySem.F.type_list_append mt_append mm_append (xv 1) (acons (xv 3) anil)))
    (bone (sexpr (xlm PySem.F.slot_list_extend PySem.F.type_list_extend mt_ext2 mm_ext2 (xv 2) (acons (xcomp (own := [("at", 4)]) rfl sc_signs_in.nd (irng3 T.z_range (acons (xixD T.y_FORMS_IN T.x_FORMS_IN (xix (xv 3) xint)) (acons xint (acons (xneg xint) anil)))) (blkOk_by (own := [("at", 4)]) (N := N_signs_in) (sc := defScope s_signs_in) (by decide +kernel)) (fun _ _ _ _ _ => by exact (gcname 4 (by decide) sc_signs_in.nd)) (fun _ _ _ _ _ => pnil) (fun _ _ _ _ _ => by apply re_te; (case h => exact (xix (xv 3) (xv 4))); (case q => (dsimp only [Cx.blk] <;> rfl)))) anil)))))))
    (bone (sret (xv 1)))))) rfl h
theorem ok_text_with (T : Txt K w mg A) : FnOk P w K mg base (L2.CX P w) 1 A.a_text_with A.d_text_with ["sign", "inner"] (spM K 2 (f_text_with)) :=
  T.F_text_with.okX sc_text_with (spM_len rfl) fun cdv A outer s H vs Q E hr h => body_ok (n := 2) (nl := 1)
    (bcons (sset 2 (xix (xv 0) xint) sc_text_with.nd)
    (bcons (sif (tcmp (op_eqD hr.units) om_eq (xv 2) xstr (nomark _))
    (bone (sret (xix (xv 0) xint)))
    bnil)
    (bcons (sif (tcmp (op_eqD hr.units) om_eq (xv 2) xstr (nomark _))
    (bone (sret (xjs (.cons (xfmt (xix (xv 0) xint)) (.cons xstr (.cons (xfmt (xix (xv 0) xint)) .nil))))))
    bnil)
    (bcons (sif (tinA T.y_AHEAD T.w_AHEAD T.x_AHEAD (xv 2))
    (bone (sret (xop op_addU om_add (xixD T.y_AHEAD T.x_AHEAD (xv 2)) (xix (xv 1) xint))))
    bnil)
    (bcons (sif (tinA T.y_BETWEEN T.w_BETWEEN T.x_BETWEEN (xv 2))
    (bone (sret (xjs (.cons xstr (.cons (xfmt (xix (xv 1) xint)) (.cons (xfmt (xixD T.y_BETWEEN T.x_BETWEEN (xv 2))) (.cons (xfmt (xix (xv 1) xint)) (.cons xstr .nil))))))))
    bnil)
    (bone (sret (xv 2)))))))) rfl h
theorem ok_texts_of (T : Txt K w mg A) {g_text_with : Fn} (G_text_with : FnOk P w K mg base (L2.CX P w) 1 A.a_text_with A.d_text_with ["sign", "inner"] (spM K 2 g_text_with)) : FnOk P w K mg base (L2.CX P w) 2 A.a_texts_of A.d_texts_of ["signs"] (spM K 1 (f_texts_of g_text_with)) :=
  T.F_texts_of.okX sc_texts_of (spM_len rfl) fun cdv A outer s H vs Q E hr h => body_ok (n := 1) (nl := 6)
    (bcons (sset 1 (xlst anil) sc_texts_of.nd)
    (bcons (sset 2 (xlst anil) sc_texts_of.nd)
    (bcons (sfor (passes_of rfl) rfl (iseq (xrev (xv 0))) (gname 3 sc_texts_of.nd)
    (bcons (ssetC (own := [("_", 6)]) 4 rfl sc_texts_of.nd rfl rfl (sw_true rfl rfl rfl (by decide +kernel)) (irng1 T.z_range (acons (xixD T.y_FORMS_IN T.x_FORMS_IN (xix (xv 3) xint)) anil)) (blkOk_by (own := [("_", 6)]) (N := N_texts_of) (sc := defScope s_texts_of) (by decide +kernel)) (fun _ _ _ _ _ => by exact (gcname 6 (by decide) sc_texts_of.nd)) (fun _ _ _ _ _ => pnil) (fun _ _ _ _ _ => by apply re_te; (case h => exact (xlm0 PySem.F.slot_list_pop PySem.F.type_list_pop mt_pop mm_pop (xv 2))); (case q => (dsimp only [Cx.blk] <;> rfl))))
    (bcons (sset 5 (xcall G_text_with (hr.mono (by decide)) T.g_text_with T.F_text_with.kp T.b_text_with (acons (xfz (xv 3)) (acons (xfz (xv 4)) anil)) (cons_len (cons_len (nil_len rfl) rfl) rfl) passF) sc_texts_of.nd)
    (bcons (sexpr (xlm PySem.F.slot_list_append PySem.F.type_list_append mt_append mm_append (xv 2) (acons (xv 5) anil)))
    (bone (sexpr (xlm PySem.F.slot_list_append PySem.F.type_list_append mt_append mm_append (xv 1) (acons (xv 5) anil))))))))
    (bone (sret (xrev (xv 1))))))) rfl h
theorem ok_outline_of (T : Txt K w mg A) {g_texts_of : Fn} (G_texts_of : FnOk P w K mg base (L2.CX P w) 2 A.a_texts_of A.d_texts_of ["signs"] (spM K 1 g_texts_of)) {g_signs_in : Fn} (G_signs_in : FnOk P w K mg base (L2.CX P w) 1 A.a_signs_in A.d_signs_in ["form"] (spM K 1 g_signs_in)) : FnOk P w K mg base (L2.CX P w) 3 A.a_outline_of A.d_outline_of ["form"] (spM K 1 (f_outline_of g_texts_of g_signs_in)) :=
  T.F_outline_of.okX sc_outline_of (spM_len rfl) fun cdv A outer s H vs Q E hr h => body_ok (n := 1) (nl := 3)
    (bcons (sset 1 (xlst anil) sc_outline_of.nd)
    (bcons (sset 2 (xlst (acons (xv 0) anil)) sc_outline_of.nd)
    (bcons (swhile 100000 (passes_of rfl) (ttru (xv 2))
    (bcons (sset 3 (xlm0 PySem.F.slot_list_pop PySem.F.type_list_pop mt_pop mm_pop (xv 2)) sc_outline_of.nd)
    (bone (sif (tcmp op_in_seq (om_in false) (xix (xv 3) xint) (xgdat T.x_TOLD T.y_TOLD) (by rfl))
    (bone (sexpr (xlm PySem.F.slot_list_append PySem.F.type_list_append mt_append mm_append (xv 1) (acons (xtup (acons (xix (xv 3) xint) (acons (xix (xcall G_texts_of (hr.mono (by decide)) T.g_texts_of T.F_texts_of.kp T.b_texts_of (acons (xfz (xcall G_signs_in (hr.mono (by decide)) T.g_signs_in T.F_signs_in.kp T.b_signs_in (acons (xfz (xv 3)) anil) (cons_len (nil_len rfl) rfl) passF)) anil) (cons_len (nil_len rfl) rfl) passF) xint) anil))) anil))))
    (bcons (sexpr (xlm PySem.F.slot_list_append PySem.F.type_list_append mt_append mm_append (xv 1) (acons (xtup (acons (xix (xv 3) xint) (acons xstr anil))) anil)))
    (bone (sexpr (xlm PySem.F.slot_list_extend PySem.F.type_list_extend mt_ext2 mm_ext2 (xv 2) (acons (xback (xv 3)) anil)))))))))
    (bone (sret (xv 1)))))) rfl h
theorem ok_Saying___init__ (T : Txt K w mg A) {g_signs_of : Fn} (G_signs_of : FnOk P w K mg base (L2.CX P w) 6 A.a_signs_of A.d_signs_of ["form"] (spM K 1 g_signs_of)) : FnOk P w K mg base (L2.CX P w) 7 A.a_Saying___init__ A.d_Saying___init__ ["self", "form"] (spM K 2 (f_Saying___init__ g_signs_of)) :=
  T.F_Saying___init__.okX sc_Saying___init__ (spM_len rfl) fun cdv A outer s H vs Q E hr h => body_ok (n := 2) (nl := 0)
    (bcons (ssetF T.o_Saying T.n_Saying__signs (xcall G_signs_of (hr.mono (by decide)) T.g_signs_of T.F_signs_of.kp T.b_signs_of (acons (xfz (xv 1)) anil) (cons_len (nil_len rfl) rfl) passF) (xv 0))
    (bone (ssetF T.o_Saying T.n_Saying__form (xix (xfld T.o_Saying T.n_Saying__signs (xv 0)) xint) (xv 0)))) rfl h
theorem ok_Saying_text (T : Txt K w mg A) {g_texts_of : Fn} (G_texts_of : FnOk P w K mg base (L2.CX P w) 2 A.a_texts_of A.d_texts_of ["signs"] (spM K 1 g_texts_of)) : FnOk P w K mg base (L2.CX P w) 3 A.a_Saying_text A.d_Saying_text ["self"] (spM K 1 (f_Saying_text g_texts_of)) :=
  T.F_Saying_text.okX sc_Saying_text (spM_len rfl) fun cdv A outer s H vs Q E hr h => body_ok (n := 1) (nl := 0)
    (bone (sret (xix (xcall G_texts_of (hr.mono (by decide)) T.g_texts_of T.F_texts_of.kp T.b_texts_of (acons (xfz (xfld T.o_Saying T.n_Saying__signs (xv 0))) anil) (cons_len (nil_len rfl) rfl) passF) xint))) rfl h
theorem ok_Saying_letters (T : Txt K w mg A) : FnOk P w K mg base (L2.CX P w) 1 A.a_Saying_letters A.d_Saying_letters ["self"] (spM K 1 (f_Saying_letters)) :=
  T.F_Saying_letters.okX sc_Saying_letters (spM_len rfl) fun cdv A outer s H vs Q E hr h => body_ok (n := 1) (nl := 1)
    (bone (sret (xsortP (tf := (fun d => ((ixD d (.int 0)).bind fun x => eqF x (.str "letter")).bind blD)) (mf := (fun d => ixD d (.int 1))) T.z_sorted (by decide +kernel) rfl sc_Saying_letters.nd (iseq (xfld T.o_Saying T.n_Saying__signs (xv 0))) (blkOk_by (own := [("sign", 1)]) (N := N_Saying_letters) (sc := defScope s_Saying_letters) (by decide +kernel)) (fun _ _ _ _ _ => by exact (gcname 1 (by decide) sc_Saying_letters.nd)) (fun _ _ _ _ _ => (by apply re_tt; (case h => exact (pone (tcmp (op_eqD hr.units) om_eq (xix (xv 1) xint) xstr (nomark _)))); (case q => (dsimp only [Cx.blk] <;> rfl)))) (fun _ _ _ _ _ => by apply re_te; (case h => exact (xix (xv 1) xint)); (case q => (dsimp only [Cx.blk] <;> rfl))) eqp_at eqm_at))) rfl h
theorem ok_Saying_acts (T : Txt K w mg A) : FnOk P w K mg base (L2.CX P w) 1 A.a_Saying_acts A.d_Saying_acts ["self"] (spM K 1 (f_Saying_acts)) :=
  T.F_Saying_acts.okX sc_Saying_acts (spM_len rfl) fun cdv A outer s H vs Q E hr h => body_ok (n := 1) (nl := 1)
    (bone (sret (xsortPW (tf := (fun d => ((ixD d (.int 0)).bind fun x => eqF x (.str "act")).bind blD)) (mf := (fun d => pairF (ixD d (.int 1)) (ixD d (.int 2)))) T.z_sorted (by decide +kernel) rfl hr.units sc_Saying_acts.nd (iseq (xfld T.o_Saying T.n_Saying__signs (xv 0))) (blkOk_by (own := [("sign", 1)]) (N := N_Saying_acts) (sc := defScope s_Saying_acts) (by decide +kernel)) (fun _ _ _ _ _ => by exact (gcname 1 (by decide) sc_Saying_acts.nd)) (fun _ _ _ _ _ => (by apply re_tt; (case h => exact (pone (tcmp (op_eqD hr.units) om_eq (xix (xv 1) xint) xstr (nomark _)))); (case q => (dsimp only [Cx.blk] <;> rfl)))) (fun _ _ _ _ _ => by apply re_te; (case h => exact (xtup (acons (xix (xv 1) xint) (acons (xix (xv 1) xint) anil)))); (case q => (dsimp only [Cx.blk] <;> rfl))) eqp_at eqm_pair))) rfl h
theorem ok_Saying_boxes (T : Txt K w mg A) {g_texts_of : Fn} (G_texts_of : FnOk P w K mg base (L2.CX P w) 2 A.a_texts_of A.d_texts_of ["signs"] (spM K 1 g_texts_of)) {g_Saying___init__ : Fn} (G_Saying___init__ : FnOk P w K mg base (L2.CX P w) 7 A.a_Saying___init__ A.d_Saying___init__ ["self", "form"] (spM K 2 g_Saying___init__)) : FnOk P w K mg base (L2.CX P w) 9 A.a_Saying_boxes A.d_Saying_boxes ["self"] (spM K 1 (f_Saying_boxes g_texts_of g_Saying___init__)) :=
  T.F_Saying_boxes.okX sc_Saying_boxes (spM_len rfl) fun cdv A outer s H vs Q E hr h => body_ok (n := 1) (nl := 4)
    (bcons (sset 1 (xcall G_texts_of (hr.mono (by decide)) T.g_texts_of T.F_texts_of.kp T.b_texts_of (acons (xfz (xfld T.o_Saying T.n_Saying__signs (xv 0))) anil) (cons_len (nil_len rfl) rfl) passF) sc_Saying_boxes.nd)
    (bcons (sset 2 (xdcomp (own := [("text", 3), ("sign", 4)]) rfl sc_Saying_boxes.nd (izip T.z_zip (acons (xv 1) (acons (xfld T.o_Saying T.n_Saying__signs (xv 0)) anil))) (blkOk_by (own := [("text", 3), ("sign", 4)]) (N := N_Saying_boxes) (sc := defScope s_Saying_boxes) (by decide +kernel)) (fun _ _ _ _ _ => by apply re_gc; (case h => exact (gctup rfl (gccons (gcname 3 (by decide) sc_Saying_boxes.nd) (gccons (gcname 4 (by decide) sc_Saying_boxes.nd) gcnil)) rfl)); (case q => (dsimp only [Cx.blk] <;> rfl))) (fun _ _ _ _ _ => (by apply re_tt; (case h => exact (pone (tcmp (op_eqD hr.units) om_eq (xix (xv 4) xint) xstr (nomark _)))); (case q => (dsimp only [Cx.blk] <;> rfl)))) (fun _ _ _ _ _ => by apply re_te; (case h => exact (xv 3)); (case q => (dsimp only [Cx.blk] <;> rfl))) (fun _ _ _ _ _ => by apply re_te; (case h => exact (xv 4)); (case q => (dsimp only [Cx.blk] <;> rfl)))) sc_Saying_boxes.nd)
    (bone (sret (xcomp (own := [("text", 3)]) rfl sc_Saying_boxes.nd (iseq (xblt (call_sortedDU rfl) cm_sortD T.z_sorted (by decide +kernel) (acons (xv 2) anil))) (blkOk_by (own := [("text", 3)]) (N := N_Saying_boxes) (sc := defScope s_Saying_boxes) (by decide +kernel)) (fun _ _ _ _ _ => by exact (gcname 3 (by decide) sc_Saying_boxes.nd)) (fun _ _ _ _ _ => pnil) (fun _ _ _ _ _ => by apply re_te; (case h => exact (xmake T.k_Saying G_Saying___init__ (hr.mono (by decide)) T.m_Saying T.b_Saying___init__ (acons (xfz (xdg hr (xv 2) (xv 3))) anil) (cons_len (nil_len rfl) rfl) passF)); (case q => (dsimp only [Cx.blk] <;> rfl)))))))) rfl h
theorem ok_Saying_is_boxed (T : Txt K w mg A) {g_outline_of : Fn} (G_outline_of : FnOk P w K mg base (L2.CX P w) 3 A.a_outline_of A.d_outline_of ["form"] (spM K 1 g_outline_of)) : FnOk P w K mg base (L2.CX P w) 4 A.a_Saying_is_boxed A.d_Saying_is_boxed ["self"] (spM K 1 (f_Saying_is_boxed g_outline_of)) :=
  T.F_Saying_is_boxed.okX sc_Saying_is_boxed (spM_len rfl) fun cdv A outer s H vs Q E hr h => body_ok (n := 1) (nl := 2)
    (bone (sret (xblt (cr_all rfl) cm_all T.z_all (by decide +kernel) (acons (xcomp (own := [("word", 1), ("_", 2)]) rfl sc_Saying_is_boxed.nd (iseq (xcall G_outline_of (hr.mono (by decide)) T.g_outline_of T.F_outline_of.kp T.b_outline_of (acons (xfz (xfld T.o_Saying T.n_Saying__form (xv 0))) anil) (cons_len (nil_len rfl) rfl) passF)) (blkOk_by (own := [("word", 1), ("_", 2)]) (N := N_Saying_is_boxed) (sc := defScope s_Saying_is_boxed) (by decide +kernel)) (fun _ _ _ _ _ => by apply re_gc; (case h => exact (gctup rfl (gccons (gcname 1 (by decide) sc_Saying_is_boxed.nd) (gccons (gcname 2 (by decide) sc_Saying_is_boxed.nd) gcnil)) rfl)); (case q => (dsimp only [Cx.blk] <;> rfl))) (fun _ _ _ _ _ => pnil) (fun _ _ _ _ _ => by apply re_te; (case h => exact (xcmp op_notIn_seq (om_in true) (xv 1) (xtup (acons xstr (acons xstr anil))) (by rfl))); (case q => (dsimp only [Cx.blk] <;> rfl)))) anil)))) rfl h
theorem ok__law_stream (T : Txt K w mg A) : FnOk P w K mg base (L2.CX P w) 1 A.a__law_stream A.d__law_stream ["_law_script", "_law_k"] (spM K 2 (f__law_stream)) :=
  T.F__law_stream.okX sc__law_stream (spM_len rfl) fun cdv A outer s H vs Q E hr h => body_ok (n := 2) (nl := 1)
    (bcons (sset 2 (xif (tcmp op_lt om_lt (xv 1) (xlen T.z_len (acons (xv 0) anil)) (nomark _)) (xblt call_absU cm_abs T.z_abs (by decide +kernel) (acons (xix (xv 0) (xv 1)) anil)) xint) sc__law_stream.nd)
    (bone (sret (xlst (acons (xif (tcmp op_ge om_ge (xv 2) (xop op_pow om_pow xint xint) (nomark _)) (xv 2) xint) (acons (xop op_addU om_add (xop op_modN om_mod (xbty call_intU cm_int T.z_int (by decide +kernel) (acons (xv 2) anil)) xint) (xop op_mulU om_mul xint (xv 1))) (acons xint anil))))))) rfl h
theorem ok__law_draw (T : Txt K w mg A) : FnOk P w K mg base (L2.CX P w) 1 A.a__law_draw A.d__law_draw ["_law_stream_here", "_law_many"] (spM K 2 (f__law_draw)) :=
  T.F__law_draw.okX sc__law_draw (spM_len rfl) fun cdv A outer s H vs Q E hr h => body_ok (n := 2) (nl := 2)
    (bcons (sif (tcmp op_gt om_gt (xix (xv 0) xint) xint (nomark _))
    (bcons (sset 2 (xop op_modN om_mod (xbty call_intU cm_int T.z_int (by decide +kernel) (acons (xix (xv 0) xint) anil)) (xv 1)) sc__law_draw.nd)
    (bcons (ssetI (xop op_fdivN om_fdiv (xix (xv 0) xint) (xv 1)) (xv 0) xint (pg_sub (xv 0).pe xint.pe set_list))
    (bone (sret (xv 2)))))
    bnil)
    (bcons (ssetI (xop op_addU om_add (xix (xv 0) xint) xint) (xv 0) xint (pg_sub (xv 0).pe xint.pe set_list))
    (bcons (sset 3 (xop op_modN om_mod (xop op_pow om_pow (xbty call_intU cm_int T.z_int (by decide +kernel) (acons (xop op_addU om_add (xop op_addU om_add (xix (xv 0) xint) (xop op_mulU om_mul xint (xix (xv 0) xint))) xint) anil)) xint) xint) sc__law_draw.nd)
    (bone (sret (xop op_modN om_mod (xop op_fdivN om_fdiv (xop op_modN om_mod (xbty call_intU cm_int T.z_int (by decide +kernel) (acons (xop op_mulU om_mul (xop op_addU om_add (xv 3) (xix (xv 0) xint)) xint) anil)) xint) xint) (xv 1))))))) rfl h
theorem ok__law_pick (T : Txt K w mg A) {g__law_draw : Fn} (G__law_draw : FnOk P w K mg base (L2.CX P w) 1 A.a__law_draw A.d__law_draw ["_law_stream_here", "_law_many"] (spM K 2 g__law_draw)) : FnOk P w K mg base (L2.CX P w) 2 A.a__law_pick A.d__law_pick ["_law_stream_here", "_law_things"] (spM K 2 (f__law_pick g__law_draw)) :=
  T.F__law_pick.okX sc__law_pick (spM_len rfl) fun cdv A outer s H vs Q E hr h => body_ok (n := 2) (nl := 0)
    (bone (sret (xix (xv 1) (xcall G__law_draw (hr.mono (by decide)) T.g__law_draw T.F__law_draw.kp T.b__law_draw (acons (xv 0) (acons (xfz (xlen T.z_len (acons (xv 1) anil))) anil)) (cons_len (cons_len (nil_len rfl) rfl) rfl) passF)))) rfl h
theorem ok__law_text (T : Txt K w mg A) : ∀ n : Nat, FnOk P w K mg base (L2.CX P w) (0 + n) A.a__law_text A.d__law_text ["_law_form"] (spM K 1 (f__law_text n))
  | 0 => ⟨spM_len rfl, fun A outer s H args us vs Q E hr h0 hb hv h => by obtain ⟨_, _, _, _, _, _, _, _, _, e, _⟩ := h; cases e⟩
  | n + 1 => have G__law_text := ok__law_text T n
    T.F__law_text.okX sc__law_text (spM_len rfl) fun cdv A outer s H vs Q E hr h => body_ok (n := 1) (nl := 2)
    (bcons (sset 1 (xix (xv 0) xint) sc__law_text.nd)
    (bcons (sif (tcmp (op_eqD hr.units) om_eq (xv 1) xstr (nomark _))
    (bone (sret (xix (xv 0) xint)))
    bnil)
    (bcons (sif (tcmp (op_eqD hr.units) om_eq (xv 1) xstr (nomark _))
    (bone (sret (xop op_addU om_add (xop op_addU om_add (xix (xv 0) xint) xstr) (xix (xv 0) xint))))
    bnil)
    (bcons (sif (tcmp op_in_seq (om_in false) (xv 1) (xtup (acons xstr (acons xstr anil))) (by rfl))
    (bone (sret (xop op_addU om_add (xif (tcmp (op_eqD hr.units) om_eq (xv 1) xstr (nomark _)) xstr xstr) (xcall G__law_text hr T.g__law_text T.F__law_text.kp T.b__law_text (acons (xfz (xix (xv 0) xint)) anil) (cons_len (nil_len rfl) rfl) passF))))
    bnil)
    (bcons (sif (tcmp op_in_seq (om_in false) (xv 1) (xtup (acons xstr (acons xstr (acons xstr anil)))) (by rfl))
    (bcons (sset 2 (xdg hr (xdsp (.cons xstr xstr (.cons xstr xstr (.cons xstr xstr .nil))) (hm := Nat.le_of_ble_eq_true rfl)) (xv 1)) sc__law_text.nd)
    (bone (sret (xop op_addU om_add (xop op_addU om_add (xop op_addU om_add (xop op_addU om_add xstr (xcall G__law_text hr T.g__law_text T.F__law_text.kp T.b__law_text (acons (xfz (xix (xv 0) xint)) anil) (cons_len (nil_len rfl) rfl) passF)) (xv 2)) (xcall G__law_text hr T.g__law_text T.F__law_text.kp T.b__law_text (acons (xfz (xix (xv 0) xint)) anil) (cons_len (nil_len rfl) rfl) passF)) xstr))))
    bnil)
    (bone (sret (xv 1)))))))) rfl h
theorem ok__law_inner (T : Txt K w mg A) : FnOk P w K mg base (L2.CX P w) 1 A.a__law_inner A.d__law_inner ["_law_form"] (spM K 1 (f__law_inner)) :=
  T.F__law_inner.okX sc__law_inner (spM_len rfl) fun cdv A outer s H vs Q E hr h => body_ok (n := 1) (nl := 0)
    (bone (sret (xif (tcmp op_in_seq (om_in false) (xix (xv 0) xint) (xtup (acons xstr (acons xstr (acons xstr (acons xstr anil))))) (by rfl)) (xtup anil) (xsl (xv 0) (osome xint) onone)))) rfl h
theorem ok__law_all (T : Txt K w mg A) {g__law_inner : Fn} (G__law_inner : FnOk P w K mg base (L2.CX P w) 1 A.a__law_inner A.d__law_inner ["_law_form"] (spM K 1 g__law_inner)) : ∀ n : Nat, FnOk P w K mg base (L2.CX P w) (1 + n) A.a__law_all A.d__law_all ["_law_form"] (spM K 1 (f__law_all g__law_inner n))
  | 0 => ⟨spM_len rfl, fun A outer s H args us vs Q E hr h0 hb hv h => by obtain ⟨_, _, _, _, _, _, _, _, _, e, _⟩ := h; cases e⟩
  | n + 1 => have G__law_all := ok__law_all T G__law_inner n
    T.F__law_all.okX sc__law_all (spM_len rfl) fun cdv A outer s H vs Q E hr h => body_ok (n := 1) (nl := 2)
    (bcons (sset 1 (xlst (acons (xv 0) anil)) sc__law_all.nd)
    (bcons (sfor (passes_of rfl) rfl (iseq (xcall G__law_inner (hr.monoR (by decide)) T.g__law_inner T.F__law_inner.kp T.b__law_inner (acons (xfz (xv 0)) anil) (cons_len (nil_len rfl) rfl) passF)) (gname 2 sc__law_all.nd)
    (bone (sexpr (xlm PySem.F.slot_list_extend PySem.F.type_list_extend mt_ext2 mm_ext2 (xv 1) (acons (xcall G__law_all hr T.g__law_all T.F__law_all.kp T.b__law_all (acons (xfz (xv 2)) anil) (cons_len (nil_len rfl) rfl) passF) anil)))))
    (bone (sret (xv 1))))) rfl h
theorem ok__law_atoms (T : Txt K w mg A) : FnOk P w K mg base (L2.CX P w) 1 A.a__law_atoms A.d__law_atoms [] (spM K 0 (f__law_atoms)) :=
  T.F__law_atoms.okX sc__law_atoms (spM_len rfl) fun cdv A outer s H vs Q E hr h => body_ok (n := 0) (nl := 1)
    (bcons (sset 0 (xlst (acons (xtup (acons xstr (acons xstr anil))) (acons (xtup (acons xstr (acons xstr anil))) (acons (xtup (acons xstr (acons xstr anil))) (acons (xtup (acons xstr (acons xstr (acons xstr anil)))) anil))))) sc__law_atoms.nd)
    (bone (sret (xop op_addU om_add (xv 0) (xlst (acons (xtup (acons xstr (acons xstr (acons xstr anil)))) (acons (xtup (acons xstr (acons xstr (acons xstr anil)))) anil))))))) rfl h
theorem ok__law_free (T : Txt K w mg A) {g__law_draw : Fn} (G__law_draw : FnOk P w K mg base (L2.CX P w) 1 A.a__law_draw A.d__law_draw ["_law_stream_here", "_law_many"] (spM K 2 g__law_draw)) {g__law_pick : Fn} (G__law_pick : FnOk P w K mg base (L2.CX P w) 2 A.a__law_pick A.d__law_pick ["_law_stream_here", "_law_things"] (spM K 2 g__law_pick)) : ∀ n : Nat, FnOk P w K mg base (L2.CX P w) (2 + n) A.a__law_free A.d__law_free ["_law_stream_here", "_law_atoms_here", "_law_size"] (spM K 3 (f__law_free g__law_draw g__law_pick n))
  | 0 => ⟨spM_len rfl, fun A outer s H args us vs Q E hr h0 hb hv h => by obtain ⟨_, _, _, _, _, _, _, _, _, e, _⟩ := h; cases e⟩
  | n + 1 => have G__law_free := ok__law_free T G__law_draw G__law_pick n
    T.F__law_free.okX sc__law_free (spM_len rfl) fun cdv A outer s H vs Q E hr h => body_ok (n := 3) (nl := 2)
    (bcons (sif (tbool (wor (tcmp op_lt om_lt (xv 2) xint (nomark _)) (wor1 (tcmp (op_eqD hr.units) om_eq (xcall G__law_draw (hr.monoR (by decide)) T.g__law_draw T.F__law_draw.kp T.b__law_draw (acons (xv 0) (acons xint anil)) (cons_len (cons_len (nil_len rfl) rfl) rfl) passF) xint (nomark _)))))
    (bone (sret (xcall G__law_pick (hr.monoR (by decide)) T.g__law_pick T.F__law_pick.kp T.b__law_pick (acons (xv 0) (acons (xfz (xif (tcmp (op_eqD hr.units) om_eq (xcall G__law_draw (hr.monoR (by decide)) T.g__law_draw T.F__law_draw.kp T.b__law_draw (acons (xv 0) (acons xint anil)) (cons_len (cons_len (nil_len rfl) rfl) rfl) passF) xint (nomark _)) (xop op_addU om_add (xv 1) (xlst (acons (xtup (acons xstr anil)) (acons (xtup (acons xstr anil)) anil)))) (xv 1))) anil)) (cons_len (cons_len (nil_len rfl) rfl) rfl) passF)))
    bnil)
    (bcons (sset 3 (xcall G__law_pick (hr.monoR (by decide)) T.g__law_pick T.F__law_pick.kp T.b__law_pick (acons (xv 0) (acons (xfz (xlst (acons xstr (acons xstr (acons xstr (acons xstr (acons xstr (acons xstr anil)))))))) anil)) (cons_len (cons_len (nil_len rfl) rfl) rfl) passF) sc__law_free.nd)
    (bcons (sif (tbool (wor (tcmp op_in_seq (om_in false) (xv 3) (xtup (acons xstr (acons xstr anil))) (by rfl)) (wor1 (tcmp op_lt om_lt (xv 2) xint (nomark _)))))
    (bcons (sset 3 (xif (tcmp op_in_seq (om_in false) (xv 3) (xtup (acons xstr (acons xstr anil))) (by rfl)) (xv 3) xstr) sc__law_free.nd)
    (bone (sret (xtup (acons (xv 3) (acons (xcall G__law_free hr T.g__law_free T.F__law_free.kp T.b__law_free (acons (xv 0) (acons (xfz (xv 1)) (acons (xfz (xop op_sub om_sub (xv 2) xint)) anil))) (cons_len (cons_len (cons_len (nil_len rfl) rfl) rfl) rfl) passF) anil))))))
    bnil)
    (bcons (sset 4 (xop op_addU om_add xint (xcall G__law_draw (hr.monoR (by decide)) T.g__law_draw T.F__law_draw.kp T.b__law_draw (acons (xv 0) (acons (xfz (xop op_sub om_sub (xv 2) xint)) anil)) (cons_len (cons_len (nil_len rfl) rfl) rfl) passF)) sc__law_free.nd)
    (bone (sret (xtup (acons (xv 3) (acons (xcall G__law_free hr T.g__law_free T.F__law_free.kp T.b__law_free (acons (xv 0) (acons (xfz (xv 1)) (acons (xfz (xv 4)) anil))) (cons_len (cons_len (cons_len (nil_len rfl) rfl) rfl) rfl) passF) (acons (xcall G__law_free hr T.g__law_free T.F__law_free.kp T.b__law_free (acons (xv 0) (acons (xfz (xv 1)) (acons (xfz (xop op_sub om_sub (xop op_sub om_sub (xv 2) xint) (xv 4))) anil))) (cons_len (cons_len (cons_len (nil_len rfl) rfl) rfl) rfl) passF) anil)))))))))) rfl h
theorem ok__law_open (T : Txt K w mg A) {g__law_inner : Fn} (G__law_inner : FnOk P w K mg base (L2.CX P w) 1 A.a__law_inner A.d__law_inner ["_law_form"] (spM K 1 g__law_inner)) : ∀ n : Nat, FnOk P w K mg base (L2.CX P w) (1 + n) A.a__law_open A.d__law_open ["_law_form"] (spM K 1 (f__law_open g__law_inner n))
  | 0 => ⟨spM_len rfl, fun A outer s H args us vs Q E hr h0 hb hv h => by obtain ⟨_, _, _, _, _, _, _, _, _, e, _⟩ := h; cases e⟩
  | n + 1 => have G__law_open := ok__law_open T G__law_inner n
    T.F__law_open.okX sc__law_open (spM_len rfl) fun cdv A outer s H vs Q E hr h => body_ok (n := 1) (nl := 1)
    (bcons (sif (tcmp op_in_seq (om_in false) (xix (xv 0) xint) (xtup (acons xstr (acons xstr anil))) (by rfl))
    (bone (sret xbl))
    bnil)
    (bone (sret (xand (xcmp (op_neD hr.units) om_ne (xix (xv 0) xint) xstr (nomark _)) (xone (xblt (cr_any rfl) cm_any T.z_any (by decide +kernel) (acons (xcomp (own := [("_law_part", 1)]) rfl sc__law_open.nd (iseq (xcall G__law_inner (hr.monoR (by decide)) T.g__law_inner T.F__law_inner.kp T.b__law_inner (acons (xfz (xv 0)) anil) (cons_len (nil_len rfl) rfl) passF)) (blkOk_by (own := [("_law_part", 1)]) (N := N__law_open) (sc := defScope s__law_open) (by decide +kernel)) (fun _ _ _ _ _ => by exact (gcname 1 (by decide) sc__law_open.nd)) (fun _ _ _ _ _ => pnil) (fun _ _ _ _ _ => by apply re_te; (case h => exact (xcall G__law_open hr T.g__law_open T.F__law_open.kp T.b__law_open (acons (xfz (xv 1)) anil) (cons_len (nil_len rfl) rfl) passF)); (case q => (dsimp only [Cx.blk] <;> rfl)))) anil))))))) rfl h
theorem ok_law (T : Txt K w mg A) {g__law_stream : Fn} (G__law_stream : FnOk P w K mg base (L2.CX P w) 1 A.a__law_stream A.d__law_stream ["_law_script", "_law_k"] (spM K 2 g__law_stream)) {g__law_free : Fn} (G__law_free : FnOk P w K mg base (L2.CX P w) 22 A.a__law_free A.d__law_free ["_law_stream_here", "_law_atoms_here", "_law_size"] (spM K 3 g__law_free)) {g__law_atoms : Fn} (G__law_atoms : FnOk P w K mg base (L2.CX P w) 1 A.a__law_atoms A.d__law_atoms [] (spM K 0 g__law_atoms)) {g__law_all : Fn} (G__law_all : FnOk P w K mg base (L2.CX P w) 61 A.a__law_all A.d__law_all ["_law_form"] (spM K 1 g__law_all)) {g_Saying___init__ : Fn} (G_Saying___init__ : FnOk P w K mg base (L2.CX P w) 7 A.a_Saying___init__ A.d_Saying___init__ ["self", "form"] (spM K 2 g_Saying___init__)) {g__law_text : Fn} (G__law_text : FnOk P w K mg base (L2.CX P w) 60 A.a__law_text A.d__law_text ["_law_form"] (spM K 1 g__law_text)) {g_Saying_boxes : Fn} (G_Saying_boxes : FnOk P w K mg base (L2.CX P w) 9 A.a_Saying_boxes A.d_Saying_boxes ["self"] (spM K 1 g_Saying_boxes)) {g_Saying_acts : Fn} (G_Saying_acts : FnOk P w K mg base (L2.CX P w) 1 A.a_Saying_acts A.d_Saying_acts ["self"] (spM K 1 g_Saying_acts)) {g_Saying_letters : Fn} (G_Saying_letters : FnOk P w K mg base (L2.CX P w) 1 A.a_Saying_letters A.d_Saying_letters ["self"] (spM K 1 g_Saying_letters)) {g_Saying_text : Fn} (G_Saying_text : FnOk P w K mg base (L2.CX P w) 3 A.a_Saying_text A.d_Saying_text ["self"] (spM K 1 g_Saying_text)) {g_Saying_is_boxed : Fn} (G_Saying_is_boxed : FnOk P w K mg base (L2.CX P w) 4 A.a_Saying_is_boxed A.d_Saying_is_boxed ["self"] (spM K 1 g_Saying_is_boxed)) {g__law_open : Fn} (G__law_open : FnOk P w K mg base (L2.CX P w) 61 A.a__law_open A.d__law_open ["_law_form"] (spM K 1 g__law_open)) : FnOk P w K mg base (L2.CX P w) 62 A.a_law A.d_law ["_law_script"] (spM K 1 (f_law g__law_stream g__law_free g__law_atoms g__law_all g_Saying___init__ g__law_text g_Saying_boxes g_Saying_acts g_Saying_letters g_Saying_text g_Saying_is_boxed g__law_open)) :=
  T.F_law.okX sc_law (spM_len rfl) fun cdv A outer s H vs Q E hr h => body_ok (n := 1) (nl := 12)
    (bcons (sfor (passes_of rfl) rfl (irng1 T.z_range (acons xint anil)) (gname 1 sc_law.nd)
    (bcons (sset 2 (xcall G__law_stream (hr.mono (by decide)) T.g__law_stream T.F__law_stream.kp T.b__law_stream (acons (xfz (xv 0)) (acons (xfz (xv 1)) anil)) (cons_len (cons_len (nil_len rfl) rfl) rfl) passF) sc_law.nd)
    (bcons (sset 3 (xcall G__law_free (hr.mono (by decide)) T.g__law_free T.F__law_free.kp T.b__law_free (acons (xv 2) (acons (xfz (xcall0 G__law_atoms (hr.mono (by decide)) T.g__law_atoms T.F__law_atoms.kp T.b__law_atoms passF)) (acons xint anil))) (cons_len (cons_len (cons_len (nil_len rfl) rfl) rfl) rfl) passF) sc_law.nd)
    (bcons (sset2 (i := 4) (j := 5) (acons (xfz (xmake T.k_Saying G_Saying___init__ (hr.mono (by decide)) T.m_Saying T.b_Saying___init__ (acons (xfz (xv 3)) anil) (cons_len (nil_len rfl) rfl) passF)) (acons (xfz (xcall G__law_all (hr.mono (by decide)) T.g__law_all T.F__law_all.kp T.b__law_all (acons (xfz (xv 3)) anil) (cons_len (nil_len rfl) rfl) passF)) anil)) rfl sc_law.nd rfl rfl (by decide) rfl rfl (by rfl))
    (bcons (sset 6 (xfz (xsortS T.z_sorted (by decide +kernel) T.z_set (by decide +kernel) rfl (xcomp (own := [("_law_part", 11)]) rfl sc_law.nd (iseq (xv 5)) (blkOk_by (own := [("_law_part", 11)]) (N := N_law) (sc := defScope s_law) (by decide +kernel)) (fun _ _ _ _ _ => by exact (gcname 11 (by decide) sc_law.nd)) (fun _ _ _ _ _ => (by apply re_tt; (case h => exact (pone (tcmp (op_eqD hr.units) om_eq (xix (xv 11) xint) xstr (nomark _)))); (case q => (dsimp only [Cx.blk] <;> rfl)))) (fun _ _ _ _ _ => by apply re_te; (case h => exact (xix (xv 11) xint)); (case q => (dsimp only [Cx.blk] <;> rfl)))))) sc_law.nd)
    (bcons (sset 7 (xfz (xsortSW T.z_sorted (by decide +kernel) T.z_set (by decide +kernel) rfl hr.units (xcomp (own := [("_law_part", 11)]) rfl sc_law.nd (iseq (xv 5)) (blkOk_by (own := [("_law_part", 11)]) (N := N_law) (sc := defScope s_law) (by decide +kernel)) (fun _ _ _ _ _ => by exact (gcname 11 (by decide) sc_law.nd)) (fun _ _ _ _ _ => (by apply re_tt; (case h => exact (pone (tcmp (op_eqD hr.units) om_eq (xix (xv 11) xint) xstr (nomark _)))); (case q => (dsimp only [Cx.blk] <;> rfl)))) (fun _ _ _ _ _ => by apply re_te; (case h => exact (xsl (xv 11) (osome xint) onone)); (case q => (dsimp only [Cx.blk] <;> rfl)))))) sc_law.nd)
    (bcons (sset 8 (xfz (xsortS T.z_sorted (by decide +kernel) T.z_set (by decide +kernel) rfl (xcomp (own := [("_law_part", 11)]) rfl sc_law.nd (iseq (xv 5)) (blkOk_by (own := [("_law_part", 11)]) (N := N_law) (sc := defScope s_law) (by decide +kernel)) (fun _ _ _ _ _ => by exact (gcname 11 (by decide) sc_law.nd)) (fun _ _ _ _ _ => (by apply re_tt; (case h => exact (pone (tcmp (op_eqD hr.units) om_eq (xix (xv 11) xint) xstr (nomark _)))); (case q => (dsimp only [Cx.blk] <;> rfl)))) (fun _ _ _ _ _ => by apply re_te; (case h => exact (xcall G__law_text (hr.mono (by decide)) T.g__law_text T.F__law_text.kp T.b__law_text (acons (xfz (xv 11)) anil) (cons_len (nil_len rfl) rfl) passF)); (case q => (dsimp only [Cx.blk] <;> rfl)))))) sc_law.nd)
    (bcons (sfor (passes_of rfl) rfl (irng1 T.z_range (acons xint anil)) (gname 9 sc_law.nd)
    (bcons (sset 10 (xlstT (acons (xmeth0 T.o_Saying T.g_Saying_letters G_Saying_letters (hr.mono (by decide)) T.b_Saying_letters (xv 4) passF) (acons (xmeth0 T.o_Saying T.g_Saying_acts G_Saying_acts (hr.mono (by decide)) T.b_Saying_acts (xv 4) passF) (acons (xmeth0 T.o_Saying T.g_Saying_boxes G_Saying_boxes (hr.mono (by decide)) T.b_Saying_boxes (xv 4) passF) anil)))) sc_law.nd)
    (bcons (sif (tbool (wor (tcmp (op_neD hr.units) om_ne (xixT (xv 10) xint) (xv 6) (nomark _)) (wor (tcmp (op_neD hr.units) om_ne (xixT (xv 10) xint) (xv 7) (nomark _)) (wor1 (tcmp (op_neD hr.units) om_ne (xcompS (own := [("_law_box", 12)]) rfl sc_law.nd (xixT (xv 10) xint) (blkOk_by (own := [("_law_box", 12)]) (N := N_law) (sc := defScope s_law) (by decide +kernel)) (fun _ _ _ _ _ => by exact (gcname 12 (by decide) sc_law.nd)) (fun _ _ _ _ _ => pnil) (fun _ _ _ _ _ => by apply re_te; (case h => exact (xmeth0 T.o_Saying T.g_Saying_text G_Saying_text (hr.mono (by decide)) T.b_Saying_text (xv 12) passF)); (case q => (dsimp only [Cx.blk] <;> rfl)))) (xv 8) (nomark _))))))
    (bone (sret xbl))
    bnil)
    (bcons (sexpr (xlm PySem.F.slot_list_append PySem.F.type_list_append mt_append mm_appT (xixT (xv 10) xint) (acons xstr anil)))
    (bcons (sexpr (xlm0 PySem.F.slot_list_clear PySem.F.type_list_clear mt_clear mm_clrT (xixT (xv 10) xint)))
    (bone (sexpr (xlm PySem.F.slot_list_append PySem.F.type_list_append mt_append mm_appT (xixT (xv 10) xint) (acons (xv 4) anil)))))))))
    (bone (sif (tcmp (op_eqD hr.units) om_eq (xmeth0 T.o_Saying T.g_Saying_is_boxed G_Saying_is_boxed (hr.mono (by decide)) T.b_Saying_is_boxed (xv 4) passF) (xcall G__law_open (hr.mono (by decide)) T.g__law_open T.F__law_open.kp T.b__law_open (acons (xfz (xv 3)) anil) (cons_len (nil_len rfl) rfl) passF) (nomark _))
    (bone (sret xbl))
    bnil))))))))))
    (bone (sret xbl))) rfl h
end
local macro_rules | `(tactic| walk_at "nu") => `(tactic| first | assumption | omega | ((try simp only [List.length_map, List.length_append, List.length_cons, List.length_nil, List.length_replicate, List.length_range] at *); omega))
local macro_rules | `(tactic| walk_at "yes") => `(tactic| first | rfl | assumption | exact decide_eq_true (by walk_at "nu") | exact decide_eq_false (by walk_at "nu") | exact beq_iff_eq.mpr (by walk_at "nu") | exact beq_eq_false_iff_ne.mpr (by walk_at "nu") | omega | decide | (simp; done) | (simp only [Bool.not_eq_eq_eq_not, Bool.not_true, Bool.not_false, decide_eq_true_eq, decide_eq_false_iff_not]; omega))
local macro_rules | `(tactic| walk_at "go") => `(tactic| first
  | ((with_reducible refine (?_ : lenD _ = some _)); with_reducible assumption)
  | with_reducible exact zv_ret | with_reducible exact zv_newL | with_reducible exact zv_bool | with_reducible exact zv_seeD | with_reducible exact zv_fzD | with_reducible exact zv_fzA0 | with_reducible exact zk_nil | with_reducible exact zv_bl
  | with_reducible exact zk_rt | with_reducible exact zk_bk | with_reducible exact zk_ct | with_reducible exact zw_lenL | with_reducible exact zw_lenQ | with_reducible exact zw_lenT | with_reducible exact zw_abs | with_reducible exact zw_intI | with_reducible exact zw_intB | with_reducible exact zq_int | with_reducible exact zq_bl | with_reducible exact zq_blsT | with_reducible exact zq_blsL
  | ((with_reducible apply zv_var); rfl)
  | ((with_reducible apply zv_seeC) <;> walk_at "go")
  | ((with_reducible apply zv_fzC) <;> walk_at "go")
  | ((with_reducible apply zv_bind) <;> walk_at "go")
  | ((with_reducible apply zv_cons) <;> walk_at "go")
  | ((with_reducible apply zv_fzV) <;> walk_at "go")
  | ((with_reducible apply zv_op2) <;> walk_at "go")
  | ((with_reducible apply zv_ix) <;> walk_at "go")
  | ((with_reducible apply zv_fn1) <;> walk_at "go")
  | ((with_reducible apply zv_fn2) <;> walk_at "go")
  | ((with_reducible apply zv_see) <;> walk_at "go")
  | ((with_reducible apply zv_tru) <;> walk_at "go")
  | ((with_reducible apply zv_fzA1) <;> walk_at "go")
  | ((with_reducible apply zv_tup) <;> walk_at "go")
  | ((with_reducible apply zv_lst) <;> walk_at "go")
  | ((with_reducible apply zv_not) <;> walk_at "go")
  | ((with_reducible apply zv_notV) <;> walk_at "go")
  | ((with_reducible apply zv_neg) <;> walk_at "go")
  | ((with_reducible apply zv_part) <;> walk_at "go")
  | ((with_reducible apply zv_call) <;> walk_at "go")
  | ((with_reducible apply zv_and) <;> walk_at "go")
  | ((with_reducible apply zv_or) <;> walk_at "go")
  | ((with_reducible apply zv_andV) <;> walk_at "go")
  | ((with_reducible apply zv_orV) <;> walk_at "go")
  | ((with_reducible apply zv_if) <;> walk_at "go")
  | ((with_reducible apply zk_seq) <;> walk_at "go")
  | ((with_reducible apply zk_nx) <;> walk_at "go")
  | ((with_reducible apply zk_set) <;> walk_at "go")
  | ((with_reducible apply zk_drop) <;> walk_at "go")
  | ((with_reducible apply zk_ret) <;> walk_at "go")
  | ((with_reducible apply zk_if) <;> walk_at "go")
  | ((with_reducible apply zk_setI) <;> walk_at "go")
  | ((with_reducible apply zw_eq) <;> walk_at "go")
  | ((with_reducible apply zw_ne) <;> walk_at "go")
  | ((with_reducible apply zw_mod) <;> walk_at "go")
  | ((with_reducible apply zw_fdiv) <;> walk_at "go")
  | ((with_reducible apply zw_pow) <;> walk_at "go")
  | ((with_reducible apply zv_rng1) <;> walk_at "go")
  | ((with_reducible apply zv_rng2) <;> walk_at "go")
  | ((with_reducible apply zk_for) <;> walk_at "go")
  | ((with_reducible apply zv_tuple) <;> walk_at "go")
  | ((with_reducible apply zv_list) <;> walk_at "go")
  | ((with_reducible apply zv_items) <;> walk_at "go")
  | ((with_reducible apply zk_aug) <;> walk_at "go")
  | ((with_reducible apply zk_set2) <;> walk_at "go")
  | ((with_reducible apply zv_own1) <;> walk_at "go")
  | ((with_reducible apply zv_own2) <;> walk_at "go")
  | ((with_reducible apply zv_lenO) <;> walk_at "go")
  | ((with_reducible apply zv_ixD) <;> walk_at "go")
  | ((with_reducible apply zv_inD) <;> walk_at "go")
  | ((with_reducible apply zk_asg) <;> walk_at "go")
  | ((with_reducible apply zv_str) <;> walk_at "go")
  | ((with_reducible apply zv_chain) <;> walk_at "go")
  | ((with_reducible apply zv_rev) <;> walk_at "go")
  | ((with_reducible apply zv_fld) <;> walk_at "go")
  | ((with_reducible apply zk_setF) <;> walk_at "go")
  | ((with_reducible apply zv_make) <;> walk_at "go")
  | ((with_reducible apply zv_meth) <;> walk_at "go")
  | with_reducible exact zg_tup3
  | with_reducible exact zg_name
  | with_reducible exact fl_nil
  | ((with_reducible apply fl_cons) <;> walk_at "go")
  | ((with_reducible apply zq_str) <;> first | assumption | decide +kernel)
  | ((with_reducible refine (?_ : look2 _ _ = some _)); rfl)
  | ((with_reducible refine (?_ : isi2F _ _ _ = some _)); rfl)
  | ((with_reducible refine (?_ : isiF _ _ = some _)); rfl)
  | focus ((with_reducible apply zv_addI); (focus (walk_at "go"; done)); (focus (walk_at "go"; done)))
  | focus ((with_reducible apply zv_mulI); (focus (walk_at "go"; done)); (focus (walk_at "go"; done)); all_goals walk_at "go")
  | focus ((with_reducible apply zv_addT); (focus (walk_at "go"; done)); (focus (walk_at "go"; done)); all_goals walk_at "go")
  | focus ((with_reducible apply zv_mulT); (focus (walk_at "go"; done)); (focus (walk_at "go"; done)); all_goals walk_at "go")
  | focus ((with_reducible apply zpk_T); (focus (walk_at "yes")); walk_at "go")
  | focus ((with_reducible apply zpk_F); (focus (walk_at "yes")); walk_at "go")
  | focus ((with_reducible apply zps_T); (focus (walk_at "yes")); walk_at "go")
  | focus ((with_reducible apply zps_F); (focus (walk_at "yes")); walk_at "go")
  | with_reducible exact zw_int rfl
  | ((with_reducible refine (?_ : _ ≤ (_ : Nat))); first | (simp only [List.length_cons, List.length_nil]; decide) | (simp only [List.length_map, List.length_cons, List.length_nil, List.length_append]; omega) | (simp; omega))
  | ((with_reducible refine (?_ : _ = some (Ce.lst _))); first | assumption | exact get_L rfl | exact get_new _ _ | exact get_mid _ _ _ | exact get_set (by assumption) | exact get_set (get_set (by assumption)) | rfl)
  | ((with_reducible refine (?_ : _ = some (some _))); rfl)
  | ((with_reducible refine (?_ : ixD _ _ = some _)); walk_at "it")
  | ((with_reducible apply zv_slT) <;> walk_at "go"; done)
  | ((with_reducible apply zv_slL) <;> walk_at "go"; done)
  | ((with_reducible refine (?_ : ixN _ _ = some _)); rfl)
  | ((with_reducible refine (?_ : itemsD _ = some _)); first | assumption | rfl)
  | ((with_reducible refine (?_ : truD _ = some _)); rfl)
  | ((with_reducible refine (?_ : (_ : Int) ≠ _)); first | assumption | omega | decide)
  | ((with_reducible refine (?_ : CPow _ _)); walk_at "pw")
  | ((with_reducible refine (?_ : CDivN _ _)); first | assumption | (refine ⟨?_, ?_⟩ <;> first | decide | omega))
  | ((with_reducible refine (?_ : CMul _ _)); walk_at "mu")
  | ((with_reducible refine (?_ : _ ∧ _)); first | omega | (refine ⟨?_, ?_, ?_, ?_⟩ <;> first | omega | (simp; done)))
  | ((with_reducible refine (?_ : _ = some _)); with_reducible assumption)
  | ((with_reducible refine (?_ : _ = some _)); assumption)
  | skip)
local macro_rules | `(tactic| walk_at "pw") => `(tactic| first | (refine ⟨by decide, by decide, ?_⟩; first | decide | omega) | skip)
local macro_rules | `(tactic| walk_at "mu") => `(tactic| first | (refine .inl ⟨?_, ?_⟩ <;> first | decide | omega) | (refine .inr ⟨?_, ?_⟩ <;> first | decide | omega) | skip)
local macro_rules | `(tactic| walk_at "it") => `(tactic| first | rfl | assumption | skip)
/-! ### words -/
theorem small_ok {c : Nat} (h1 : 97 ≤ c) (h2 : c ≤ 122) (ce : List Ce) : f_is_small [.d (.str ⟨#[c]⟩)] ce = some (.d (.bl true), ce) := by
  have e1 : leSF (.str "a") (.str ⟨#[c]⟩) = some (.bl true) := by
    have : ¬ ([c] < ("a" : Str).cps.toList) := by
      rw [show ("a" : Str).cps.toList = [97] from by decide +kernel]
      intro h
      rcases List.cons_lt_cons_iff.mp h with h | ⟨_, h⟩
      · omega
      · exact absurd h (List.lt_irrefl [])
    show some (Dt.bl (!decide ([c] < ("a" : Str).cps.toList))) = _
    rw [decide_eq_false this]
    rfl
  have e2 : leSF (.str ⟨#[c]⟩) (.str "z") = some (.bl true) := by
    have : ¬ (("z" : Str).cps.toList < [c]) := by
      rw [show ("z" : Str).cps.toList = [122] from by decide +kernel]
      intro h
      rcases List.cons_lt_cons_iff.mp h with h | ⟨_, h⟩
      · omega
      · exact absurd h (List.lt_irrefl [])
    show some (Dt.bl (!decide (("z" : Str).cps.toList < [c]))) = _
    rw [decide_eq_false this]
    rfl
  unfold f_is_small
  apply cut_ev (m_is_small ⟨[some (.d (.str ⟨#[c]⟩))], ce⟩)
  case h =>
    unfold m_is_small
    walk_at "go"
  case k =>
    intro ev
    exact zf_rt ev (trim_d (List.take_length))
def Small (s : Str) : Prop := 1 ≤ s.length ∧ s.length ≤ 8 ∧ ∀ c ∈ s.cps.toList, 97 ≤ c ∧ c ≤ 122
theorem all_true (n : Nat) : allD (.lst ((List.range n).map fun _ => .bl true)) = some (.bl true) := by
  have h : ∀ n : Nat, blsD (List.replicate n (Dt.bl true)) = some (List.replicate n true) := by
    intro n
    induction n with
    | zero => rfl
    | succ n ih =>
      rw [List.replicate_succ, List.replicate_succ]
      show (blsD (List.replicate n (Dt.bl true))).map _ = _
      rw [ih]
      rfl
  have e : ((List.range n).map fun _ => Dt.bl true) = List.replicate n (.bl true) := by
    simp [List.map_const']
  rw [e]
  show (blsD _).map _ = _
  rw [h]
  simp
theorem word_ok {s : Str} (h : Small s) (ce : List Ce) : f_is_word f_is_small [.d (.str s)] ce = some (.d (.bl true), ce) := by
  obtain ⟨h1, h2, h3⟩ := h
  have hz : s.length ≤ sizeLine := Nat.le_trans h2 (by decide)
  have hl : (chrs s).length = s.length := by simp [chrs, Str.length]
  obtain ⟨gs, hc⟩ := comp_gen (v := 1) (mi := strM (vM 0)) (t := retM true) (m := callM f_is_small (consM (fzV (vM 1)) (retM []))) (E := ⟨[some (.d (.str s)), none], ce⟩) (sl := [some (.d (.str s)), none]) (ce := ce) (ds := chrs s) (fun _ => true) (fun _ => .bl true)
    (zv_str (zv_var rfl)) (by show 1 < 2; decide) (by omega) (fun i d c gs hd => by
      have hd2 : (s.cps.toList.map fun c => Dt.str ⟨#[c]⟩)[i]? = some d := hd
      rw [List.getElem?_map] at hd2
      cases q : s.cps.toList[i]? with
      | none =>
        rw [q] at hd2
        cases hd2
      | some x =>
        rw [q] at hd2
        cases hd2
        obtain ⟨k1, k2⟩ := h3 x (List.mem_of_getElem? q)
        exact ⟨gs, rfl, fun _ => ⟨gs, zv_call (zv_cons (zv_fzV (zv_var rfl) zv_fzD) zv_ret) (small_ok k1 k2 _)⟩⟩)
  have hla : lenD (.str s) = some (.int (s.length : Int)) := by
    show (if s.length ≤ sizeLine then _ else _) = _
    rw [if_pos hz]
  rw [givenD_all] at hc
  unfold f_is_word
  apply cut_ev (m_is_word f_is_small ⟨[some (.d (.str s)), none], ce⟩)
  case h =>
    unfold m_is_word
    apply zk_seq (Q := .nx ⟨[some (.d (.str s)), none], ce⟩)
    · walk_at "go"
    · exact zk_nx (zk_ret (zv_bind (zv_cons hc zv_ret) (zv_fn1 (zv_seeC (get_mid _ _ _)) (all_true _))))
  case k =>
    intro ev
    refine zf_rt ev (trim_d ?_)
    show (ce ++ [_] ++ gs).take ce.length = ce
    rw [List.append_assoc, List.take_left]
/-! ### forms -/
inductive Un | not | box
inductive Bi | and | or | iff
def Un.s : Un → Str
  | .not => "not"
  | .box => "box"
def Bi.s : Bi → Str
  | .and => "and"
  | .or => "or"
  | .iff => "if"
/-- a form as it is given: true where a list stands for a tuple -/
inductive Fm
  | yes (b : Bool) | no (b : Bool) | letter (b : Bool) (s : Str) | act (b : Bool) (s t : Str)
  | un (b : Bool) (u : Un) (f : Fm) | bi (b : Bool) (o : Bi) (f g : Fm)
def sqD (b : Bool) (xs : List Dt) : Dt := match b with
  | true => .lst xs
  | false => .tup xs
def gd : Fm → Dt
  | .yes b => sqD b [.str "yes"]
  | .no b => sqD b [.str "no"]
  | .letter b s => sqD b [.str "letter", .str s]
  | .act b s t => sqD b [.str "act", .str s, .str t]
  | .un b u f => sqD b [.str u.s, gd f]
  | .bi b o f g => sqD b [.str o.s, gd f, gd g]
def dt : Fm → Dt
  | .yes _ => .tup [.str "yes"]
  | .no _ => .tup [.str "no"]
  | .letter _ s => .tup [.str "letter", .str s]
  | .act _ s t => .tup [.str "act", .str s, .str t]
  | .un _ u f => .tup [.str u.s, dt f]
  | .bi _ o f g => .tup [.str o.s, dt f, dt g]
def pre : Fm → List Fm
  | .un b u f => .un b u f :: pre f
  | .bi b o f g => .bi b o f g :: (pre f ++ pre g)
  | f => [f]
abbrev NAME : Fn := f_is_name (f_is_word f_is_small)
abbrev WHO : Fn := f_is_who (f_is_word f_is_small)
def NameOk (s : Str) : Prop := ∀ ce : List Ce, NAME [.d (.str s)] ce = some (.d (.bl true), ce)
def WhoOk (s : Str) : Prop := ∀ ce : List Ce, WHO [.d (.str s)] ce = some (.d (.bl true), ce)
def Top : Fm → Prop
  | .letter _ s => NameOk s
  | .act _ s t => WhoOk s ∧ WhoOk t
  | _ => True
def Wf : Fm → Prop
  | .letter _ s => NameOk s ∧ PyData.strOk s = true
  | .act _ s t => (WhoOk s ∧ WhoOk t) ∧ PyData.strOk s = true ∧ PyData.strOk t = true
  | .un _ _ f => Wf f
  | .bi _ _ f g => Wf f ∧ Wf g
  | _ => True
theorem name_ok {s : Str} (h : Small s) (hk : inF true (.str s) k_KEPT_WORDS = some (.bl true)) : NameOk s := fun ce => by
  have hw := word_ok h ce
  unfold NAME f_is_name
  apply cut_ev (m_is_name (f_is_word f_is_small) ⟨[some (.d (.str s))], ce⟩)
  case h =>
    unfold m_is_name
    walk_at "go"
  case k =>
    intro ev
    exact zf_rt ev (trim_d (List.take_length))
theorem who_ok {s : Str} (h : Small s) (hk : inF false (.str s) (.tup [.str "me", .str "him"]) = some (.bl true) ∨ (inF false (.str s) (.tup [.str "me", .str "him"]) = some (.bl false) ∧ inF true (.str s) k_KEPT_WORDS = some (.bl true))) : WhoOk s := fun ce => by
  have hw := word_ok h ce
  unfold WHO f_is_who
  rcases hk with hk | ⟨hk, hk2⟩
  · apply cut_ev (m_is_who (f_is_word f_is_small) ⟨[some (.d (.str s))], ce⟩)
    case h =>
      unfold m_is_who
      walk_at "go"
    case k =>
      intro ev
      exact zf_rt ev (trim_d (List.take_length))
  · apply cut_ev (m_is_who (f_is_word f_is_small) ⟨[some (.d (.str s))], ce⟩)
    case h =>
      unfold m_is_who
      walk_at "go"
    case k =>
      intro ev
      exact zf_rt ev (trim_d (List.take_length))
abbrev WRONG : Fn := f_wrong_in NAME WHO
theorem wr_of {x : Dt} {ce : List Ce} {sl2 : List (Option Vl)} (e : m_wrong_in NAME WHO ⟨[some (.d x), none, none], ce⟩ = some (.rt (.d .non) ⟨sl2, ce⟩)) : WRONG [.d x] ce = some (.d .non, ce) := by
  exact zf_rt e (trim_d (List.take_length))
local macro_rules | `(tactic| walk_at "wr") => `(tactic| (apply wr_of; (case e => (simp only [gd, sqD, Un.s, Bi.s]; unfold m_wrong_in; walk_at "go"))))
theorem wrong_ok : ∀ {f : Fm}, Top f → ∀ ce : List Ce, WRONG [.d (gd f)] ce = some (.d .non, ce) := fun {f} hf ce => by
  cases f with
  | yes b => cases b <;> walk_at "wr"
  | no b => cases b <;> walk_at "wr"
  | letter b s =>
    have hs : ∀ ce, NAME [.d (.str s)] ce = some (.d (.bl true), ce) := hf
    have hs := hs ce
    cases b <;> walk_at "wr"
  | un b u f => cases b <;> cases u <;> walk_at "wr"
  | bi b o f g => cases b <;> cases o <;> walk_at "wr"
  | act b s t =>
    obtain ⟨hs, ht⟩ := (hf : WhoOk s ∧ WhoOk t)
    have hs := hs ce
    have ht := ht ce
    cases b <;> walk_at "wr"
def tr (p : Fm × Int × Int) : Dt := .tup [gd p.1, .int p.2.1, .int p.2.2]
def todo (stk : List (Fm × Int × Int)) : List Dt := (stk.reverse).map tr
theorem todo_cons (p : Fm × Int × Int) (stk : List (Fm × Int × Int)) : todo (p :: stk) = todo stk ++ [tr p] := by
  unfold todo
  rw [List.reverse_cons, List.map_append]
  rfl
/-- what is put on the stack of a form -/
def kids (n : Int) : Fm → List (Fm × Int × Int)
  | .un _ _ f => [(f, n, 1)]
  | .bi _ _ f g => [(f, n, 1), (g, n, 2)]
  | _ => []
def itS (n : Nat) (x0 j4 j5 j6 j7 j8 : Option Vl) : List (Option Vl) := [x0, some (.c (n + 0)), some (.c (n + 1)), some (.c (n + 2)), j4, j5, j6, j7, j8]
def itT : M Bool := Hk.bindM (vM 3) truM
def itB : En → Option Rs :=
    (seqS (asgS (bmM "list" (vM 3) (retM []) popF) (tupG [(nameG 4), (nameG 5), (nameG 6)]))
    (seqS (dropS (bmM "list" (vM 2) (consM (tupM (consM (vM 5) (consM (vM 6) (retM [])))) (retM [])) appF))
    (seqS (setS 7 (callM WRONG (consM (fzV (vM 4)) (retM []))))
    (seqS (ifS (Hk.bindM (Hk.bindM (vM 7) fun x => Hk.bindM (retM (.d .non)) (op2 (isNF true) x)) boolM)
    (fun _ => none)
    nilS)
    (seqS (ifS (Hk.bindM (Hk.bindM (Hk.bindM (consM (vM 1) (retM [])) (fn1 lenD)) fun x => Hk.bindM (retM (.d (.int 100000))) (op2 eqF x)) boolM)
    (fun _ => none)
    nilS)
    (seqS (forS (rng3M (consM (ixDM k_FORMS_IN (Hk.bindM (vM 4) fun x => Hk.bindM (retM (.d (.int 0))) (ixF x))) (consM (retM (.d (.int 0))) (consM (negM (retM (.d (.int 1)))) (retM []))))) (nameG 8)
    (dropS (bmM "list" (vM 3) (consM (tupM (consM (Hk.bindM (vM 4) fun x => Hk.bindM (vM 8) (ixF x)) (consM (Hk.bindM (consM (vM 1) (retM [])) (fn1 lenD)) (consM (vM 8) (retM []))))) (retM [])) appF)))
    (dropS (bmM "list" (vM 1) (consM (vM 4) (retM [])) appF))))))))
theorem itB_is : m_items_of WRONG = (seqS (setS 1 (lstM (retM [])))
    (seqS (setS 2 (lstM (retM [])))
    (seqS (setS 3 (lstM (consM (tupM (consM (vM 0) (consM (negM (retM (.d (.int 1)))) (consM (retM (.d (.int 0))) (retM []))))) (retM []))))
    (seqS (whileS itT itB 100000)
    (retS (vM 1)))))) := rfl
theorem rngD1 : rngD 1 1 = [.int 1] := rfl
theorem rngD2 : rngD 2 2 = [.int 2, .int 1] := rfl
def itE (ce : List Ce) (sl : List (Option Vl)) (acc steps td : List Dt) : En := ⟨sl, ce ++ [.lst acc, .lst steps, .lst td]⟩
def nsub : Fm → Nat
  | .un _ _ _ => 1
  | .bi _ _ _ _ => 2
  | _ => 0
def itF : En → Option Rs := (forS (rng3M (consM (ixDM k_FORMS_IN (Hk.bindM (vM 4) fun x => Hk.bindM (retM (.d (.int 0))) (ixF x))) (consM (retM (.d (.int 0))) (consM (negM (retM (.d (.int 1)))) (retM []))))) (nameG 8)
    (dropS (bmM "list" (vM 3) (consM (tupM (consM (Hk.bindM (vM 4) fun x => Hk.bindM (vM 8) (ixF x)) (consM (Hk.bindM (consM (vM 1) (retM [])) (fn1 lenD)) (consM (vM 8) (retM []))))) (retM [])) appF)))
theorem rng_f {f : Fm} {sl : List (Option Vl)} {ce : List Ce} (h4 : sl[4]? = some (some (.d (gd f)))) : rng3M (consM (ixDM k_FORMS_IN (Hk.bindM (vM 4) fun x => Hk.bindM (retM (.d (.int 0))) (ixF x))) (consM (retM (.d (.int 0))) (consM (negM (retM (.d (.int 1)))) (retM [])))) ⟨sl, ce⟩ = some (rngD (nsub f) (nsub f), ⟨sl, ce⟩) := by
  have hx : ∃ w : Str, ixD (gd f) (.int 0) = some (.str w) ∧ look2 w k_FORMS_IN = some (.int (nsub f)) := by
    cases f with
    | yes b => cases b <;> exact ⟨_, rfl, rfl⟩
    | no b => cases b <;> exact ⟨_, rfl, rfl⟩
    | letter b s => cases b <;> exact ⟨_, rfl, rfl⟩
    | act b s t => cases b <;> exact ⟨_, rfl, rfl⟩
    | un b u f => cases b <;> cases u <;> exact ⟨_, rfl, rfl⟩
    | bi b o f g => cases b <;> cases o <;> exact ⟨_, rfl, rfl⟩
  obtain ⟨w, h1, h2⟩ := hx
  have hn : (0 : Int) ≤ (nsub f : Int) ∧ (nsub f : Int) < 2 ^ 62 := by
    cases f <;> simp [nsub]
  have e : rngD (nsub f : Int) (nsub f) = rngD (nsub f : Int) ((nsub f : Int).toNat) := by rw [Int.toNat_natCast]
  rw [e]
  exact zv_rng3 (zv_cons (zv_ixD (zv_bind (zv_var h4) (zv_bind zv_ret (zv_ix zv_seeD zv_seeD h1))) h2) (zv_cons zv_ret (zv_cons (zv_neg zv_ret) zv_ret))) hn
theorem kid_ok {i : Nat} {d : Dt} {x : Dt} {sl : List (Option Vl)} {ce : List Ce} {acc steps td : List Dt} (h1 : sl[1]? = some (some (.c (ce.length + 0)))) (h3 : sl[3]? = some (some (.c (ce.length + 2)))) (h4 : sl[4]? = some (some (.d x))) (h8 : sl[8]? = some (some (.d (.int i)))) (hx : ixD x (.int i) = some d) (hl : td.length < 100000) :
    dropS (bmM "list" (vM 3) (consM (tupM (consM (Hk.bindM (vM 4) fun x => Hk.bindM (vM 8) (ixF x)) (consM (Hk.bindM (consM (vM 1) (retM [])) (fn1 lenD)) (consM (vM 8) (retM []))))) (retM [])) appF) (itE ce sl acc steps td) = some (.nx (itE ce sl acc steps (td ++ [.tup [d, .int acc.length, .int i]]))) :=
  zk_drop (zv_appL (i := 2) (zv_var h3) (zv_cons (zv_tup (zv_cons (zv_bind (zv_var h4) (zv_bind (zv_var h8) (zv_ix zv_seeD zv_seeD hx))) (zv_cons (zv_bind (zv_cons (zv_var h1) zv_ret) (zv_fn1 (zv_seeC (get_L rfl)) zw_lenL)) (zv_cons (zv_var h8) zv_ret))) (by show 3 ≤ 100000; decide) (zv_fzA1 zv_fzD (zv_fzA1 zv_fzD (zv_fzA1 zv_fzD zv_fzA0)))) zv_ret) rfl hl rfl)
theorem kids_ok (f : Fm) (x0 j5 j6 j7 j8 : Option Vl) (ce : List Ce) (acc steps td : List Dt) (h3 : td.length < 99990) :
    ∃ j8', itF (itE ce (itS ce.length x0 (some (.d (gd f))) j5 j6 j7 j8) acc steps td) = some (.nx (itE ce (itS ce.length x0 (some (.d (gd f))) j5 j6 j7 j8') acc steps (td ++ todo (kids acc.length f)))) := by
  have hr := rng_f (f := f) (sl := itS ce.length x0 (some (.d (gd f))) j5 j6 j7 j8) (ce := ce ++ [.lst acc, .lst steps, .lst td]) rfl
  have h0 : ∀ {R : Rs}, forL (nameG 8) (dropS (bmM "list" (vM 3) (consM (tupM (consM (Hk.bindM (vM 4) fun x => Hk.bindM (vM 8) (ixF x)) (consM (Hk.bindM (consM (vM 1) (retM [])) (fn1 lenD)) (consM (vM 8) (retM []))))) (retM [])) appF)) (rngD (nsub f) (nsub f)) (itE ce (itS ce.length x0 (some (.d (gd f))) j5 j6 j7 j8) acc steps td) = some R → itF (itE ce (itS ce.length x0 (some (.d (gd f))) j5 j6 j7 j8) acc steps td) = some R := fun h => zk_for hr h
  cases f with
  | un b u f =>
    refine ⟨some (.d (.int 1)), h0 ?_⟩
    refine fl_cons (d := .int ((1 : Nat) : Int)) (ds := []) zg_name (kid_ok (i := 1) (d := gd f) (x := gd (.un b u f)) rfl rfl rfl rfl (by cases b <;> rfl) (by omega)) ?_
    rfl
  | bi b o f g =>
    refine ⟨some (.d (.int 1)), h0 ?_⟩
    refine fl_cons (d := .int ((2 : Nat) : Int)) (ds := [.int ((1 : Nat) : Int)]) zg_name (kid_ok (i := 2) (d := gd g) (x := gd (.bi b o f g)) rfl rfl rfl rfl (by cases b <;> rfl) (by omega)) ?_
    refine fl_cons (d := .int ((1 : Nat) : Int)) (ds := []) zg_name (kid_ok (i := 1) (d := gd f) (x := gd (.bi b o f g)) rfl rfl rfl rfl (by cases b <;> rfl) (by rw [List.length_append]; show td.length + 1 < 100000; omega)) ?_
    rw [List.append_assoc]
    rfl
  | yes b => exact ⟨j8, h0 (by rw [show todo (kids acc.length (.yes b)) = [] from rfl, List.append_nil]; rfl)⟩
  | no b => exact ⟨j8, h0 (by rw [show todo (kids acc.length (.no b)) = [] from rfl, List.append_nil]; rfl)⟩
  | letter b s => exact ⟨j8, h0 (by rw [show todo (kids acc.length (.letter b s)) = [] from rfl, List.append_nil]; rfl)⟩
  | act b s t => exact ⟨j8, h0 (by rw [show todo (kids acc.length (.act b s t)) = [] from rfl, List.append_nil]; rfl)⟩
theorem turn_ok {f : Fm} (hf : Top f) (o a : Int) (x0 j4 j5 j6 j7 j8 : Option Vl) (ce : List Ce) (acc steps td : List Dt) (h1 : acc.length < 100000) (h2 : steps.length < 100000) (h3 : td.length < 99990) :
    ∃ j8' , itB (itE ce (itS ce.length x0 j4 j5 j6 j7 j8) acc steps (td ++ [tr (f, o, a)])) = some (.nx (itE ce (itS ce.length x0 (some (.d (gd f))) (some (.d (.int o))) (some (.d (.int a))) (some (.d .non)) j8') (acc ++ [gd f]) (steps ++ [.tup [.int o, .int a]]) (td ++ todo (kids acc.length f)))) := by
  have hw := fun ce => wrong_ok hf ce
  have hne : ((acc.length : Int) == 100000) = false := by
    rw [beq_eq_false_iff_ne]
    omega
  obtain ⟨j8', e6⟩ := kids_ok f x0 (some (.d (.int o))) (some (.d (.int a))) (some (.d .non)) j8 ce acc (steps ++ [.tup [.int o, .int a]]) td h3
  refine ⟨j8', ?_⟩
  have e1 : asgS (bmM "list" (vM 3) (retM []) popF) (tupG [(nameG 4), (nameG 5), (nameG 6)]) (itE ce (itS ce.length x0 j4 j5 j6 j7 j8) acc steps (td ++ [tr (f, o, a)])) = some (.nx (itE ce (itS ce.length x0 (some (.d (gd f))) (some (.d (.int o))) (some (.d (.int a))) j7 j8) acc steps td)) :=
    zk_asg (zv_popL (i := 2) (zv_var rfl) rfl rfl) zg_tup3
  have e2 : dropS (bmM "list" (vM 2) (consM (tupM (consM (vM 5) (consM (vM 6) (retM [])))) (retM [])) appF) (itE ce (itS ce.length x0 (some (.d (gd f))) (some (.d (.int o))) (some (.d (.int a))) j7 j8) acc steps td) = some (.nx (itE ce (itS ce.length x0 (some (.d (gd f))) (some (.d (.int o))) (some (.d (.int a))) j7 j8) acc (steps ++ [.tup [.int o, .int a]]) td)) :=
    zk_drop (zv_appL (i := 1) (zv_var rfl) (zv_cons (zv_tup (zv_cons (zv_var rfl) (zv_cons (zv_var rfl) zv_ret)) (by show 2 ≤ 100000; decide) (zv_fzA1 zv_fzD (zv_fzA1 zv_fzD zv_fzA0))) zv_ret) rfl h2 rfl)
  have e3 : setS 7 (callM WRONG (consM (fzV (vM 4)) (retM []))) (itE ce (itS ce.length x0 (some (.d (gd f))) (some (.d (.int o))) (some (.d (.int a))) j7 j8) acc (steps ++ [.tup [.int o, .int a]]) td) = some (.nx (itE ce (itS ce.length x0 (some (.d (gd f))) (some (.d (.int o))) (some (.d (.int a))) (some (.d .non)) j8) acc (steps ++ [.tup [.int o, .int a]]) td)) :=
    zk_set (zv_call (zv_cons (zv_fzV (zv_var rfl) zv_fzD) zv_ret) (hw _))
  have e4 : ifS (Hk.bindM (Hk.bindM (vM 7) fun x => Hk.bindM (retM (.d .non)) (op2 (isNF true) x)) boolM) (fun _ => none) nilS (itE ce (itS ce.length x0 (some (.d (gd f))) (some (.d (.int o))) (some (.d (.int a))) (some (.d .non)) j8) acc (steps ++ [.tup [.int o, .int a]]) td) = some (.nx (itE ce (itS ce.length x0 (some (.d (gd f))) (some (.d (.int o))) (some (.d (.int a))) (some (.d .non)) j8) acc (steps ++ [.tup [.int o, .int a]]) td)) :=
    zk_ifF (zv_bind (zv_bind (zv_var rfl) (zv_bind zv_ret (zv_op2 zv_seeD zv_seeD (d := .bl false) rfl))) zv_bool) rfl zk_nil
  have e5 : ifS (Hk.bindM (Hk.bindM (Hk.bindM (consM (vM 1) (retM [])) (fn1 lenD)) fun x => Hk.bindM (retM (.d (.int 100000))) (op2 eqF x)) boolM) (fun _ => none) nilS (itE ce (itS ce.length x0 (some (.d (gd f))) (some (.d (.int o))) (some (.d (.int a))) (some (.d .non)) j8) acc (steps ++ [.tup [.int o, .int a]]) td) = some (.nx (itE ce (itS ce.length x0 (some (.d (gd f))) (some (.d (.int o))) (some (.d (.int a))) (some (.d .non)) j8) acc (steps ++ [.tup [.int o, .int a]]) td)) :=
    zk_ifF (zv_bind (zv_bind (zv_bind (zv_cons (zv_var rfl) zv_ret) (zv_fn1 (zv_seeC (get_L (i := 0) rfl)) zw_lenL)) (zv_bind zv_ret (zv_op2 zv_seeD zv_seeD (zw_eq zq_int)))) zv_bool) hne zk_nil
  have e7 : dropS (bmM "list" (vM 1) (consM (vM 4) (retM [])) appF) (itE ce (itS ce.length x0 (some (.d (gd f))) (some (.d (.int o))) (some (.d (.int a))) (some (.d .non)) j8') acc (steps ++ [.tup [.int o, .int a]]) (td ++ todo (kids acc.length f))) = some (.nx (itE ce (itS ce.length x0 (some (.d (gd f))) (some (.d (.int o))) (some (.d (.int a))) (some (.d .non)) j8') (acc ++ [gd f]) (steps ++ [.tup [.int o, .int a]]) (td ++ todo (kids acc.length f)))) :=
    zk_drop (zv_appL (i := 0) (zv_var rfl) (zv_cons (zv_var rfl) zv_ret) rfl h1 rfl)
  exact zk_seq e1 (zk_nx (zk_seq e2 (zk_nx (zk_seq e3 (zk_nx (zk_seq e4 (zk_nx (zk_seq e5 (zk_nx (zk_seq e6 (zk_nx e7)))))))))))
/-! ### items_of -/
def sz : List (Fm × Int × Int) → Nat
  | [] => 0
  | p :: r => (pre p.1).length + sz r
def preL : List (Fm × Int × Int) → List Fm
  | [] => []
  | p :: r => pre p.1 ++ preL r
theorem Wf.top : ∀ {f : Fm}, Wf f → Top f
  | .yes _, h => h
  | .no _, h => h
  | .letter _ _, h => h.1
  | .act _ _ _, h => h.1
  | .un _ _ _, h => True.intro
  | .bi _ _ _ _, h => True.intro
theorem kids_sz (n : Int) : ∀ f : Fm, (pre f).length = sz (kids n f) + 1
  | .un _ _ f => by
    show (pre f).length + 1 = _
    simp [kids, sz]
  | .bi _ _ f g => by
    show (pre f ++ pre g).length + 1 = _
    simp [kids, sz]
  | .yes _ => rfl
  | .no _ => rfl
  | .letter _ _ => rfl
  | .act _ _ _ => rfl
theorem kids_pre (n : Int) : ∀ f : Fm, pre f = f :: preL (kids n f)
  | .un _ _ f => by
    show _ :: pre f = _ :: (pre f ++ [])
    rw [List.append_nil]
  | .bi _ _ f g => by
    show _ :: (pre f ++ pre g) = _ :: (pre f ++ (pre g ++ []))
    rw [List.append_nil]
  | .yes _ => rfl
  | .no _ => rfl
  | .letter _ _ => rfl
  | .act _ _ _ => rfl
theorem kids_wf (n : Int) : ∀ {f : Fm}, Wf f → ∀ p ∈ kids n f, Wf p.1
  | .un _ _ f, h, p, hp => by
    have e : p = (f, n, 1) := by simpa [kids] using hp
    rw [e]
    exact h
  | .bi _ _ f g, h, p, hp => by
    have e : p = (f, n, 1) ∨ p = (g, n, 2) := by simpa [kids] using hp
    rcases e with e | e <;> rw [e]
    · exact h.1
    · exact h.2
  | .yes _, _, p, hp => absurd hp (List.not_mem_nil)
  | .no _, _, p, hp => absurd hp (List.not_mem_nil)
  | .letter _ _, _, p, hp => absurd hp (List.not_mem_nil)
  | .act _ _ _, _, p, hp => absurd hp (List.not_mem_nil)
theorem todo_app (a b : List (Fm × Int × Int)) : todo b ++ todo a = todo (a ++ b) := by
  unfold todo
  rw [List.reverse_append, List.map_append]
theorem sz_app (a b : List (Fm × Int × Int)) : sz (a ++ b) = sz a + sz b := by
  induction a with
  | nil => simp [sz]
  | cons p r ih =>
    show (pre p.1).length + sz (r ++ b) = _
    rw [ih]
    show _ = (pre p.1).length + sz r + sz b
    omega
theorem preL_app (a b : List (Fm × Int × Int)) : preL (a ++ b) = preL a ++ preL b := by
  induction a with
  | nil => rfl
  | cons p r ih =>
    show pre p.1 ++ preL (r ++ b) = _
    rw [ih]
    show _ = (pre p.1 ++ preL r) ++ preL b
    rw [List.append_assoc]
theorem todo_len (stk : List (Fm × Int × Int)) : (todo stk).length = stk.length := by simp [todo]
theorem pre_pos (f : Fm) : 1 ≤ (pre f).length := by rw [kids_sz 0]; omega
theorem len_sz : ∀ stk : List (Fm × Int × Int), stk.length ≤ sz stk
  | [] => Nat.le_refl _
  | p :: r => by
    have := pre_pos p.1
    have := len_sz r
    show r.length + 1 ≤ (pre p.1).length + sz r
    omega
theorem test_ok {n : Nat} {x0 j4 j5 j6 j7 j8 : Option Vl} {ce : List Ce} {acc steps td : List Dt} (hn : n = ce.length) : itT (itE ce (itS n x0 j4 j5 j6 j7 j8) acc steps td) = some (!td.isEmpty, itE ce (itS n x0 j4 j5 j6 j7 j8) acc steps td) := by
  subst hn
  exact zv_bind (zv_var rfl) (zv_tru (zv_seeC (get_L (i := 2) rfl)) rfl)
theorem loop_ok (ce : List Ce) (x0 : Option Vl) : ∀ (fuel : Nat) (stk : List (Fm × Int × Int)) (acc steps : List Dt) (j4 j5 j6 j7 j8 : Option Vl), sz stk < fuel → acc.length + sz stk ≤ 99980 → steps.length + sz stk ≤ 99980 → (∀ p ∈ stk, Wf p.1) →
    ∃ k4 k5 k6 k7 k8 steps', whileS itT itB fuel (itE ce (itS ce.length x0 j4 j5 j6 j7 j8) acc steps (todo stk)) = some (.nx (itE ce (itS ce.length x0 k4 k5 k6 k7 k8) (acc ++ (preL stk).map gd) steps' []))
  | 0, _, _, _, _, _, _, _, _, h, _, _, _ => absurd h (Nat.not_lt_zero _)
  | fuel + 1, [], acc, steps, j4, j5, j6, j7, j8, h, h1, h2, hw => ⟨j4, j5, j6, j7, j8, steps, zk_whF (test_ok rfl) rfl (by
      show itE _ _ _ _ [] = itE _ _ (acc ++ []) _ []
      rw [List.append_nil])⟩
  | fuel + 1, (f, o, a) :: stk, acc, steps, j4, j5, j6, j7, j8, h, h1, h2, hw => by
    have hf := hw (f, o, a) (List.mem_cons_self)
    have hs : sz ((f, o, a) :: stk) = (pre f).length + sz stk := rfl
    have hk := kids_sz acc.length f
    have hl := len_sz stk
    rw [hs] at h h1 h2
    obtain ⟨j8', e1⟩ := turn_ok hf.top o a x0 j4 j5 j6 j7 j8 ce acc steps (todo stk) (by omega) (by omega) (by rw [todo_len]; omega)
    rw [todo_app] at e1
    obtain ⟨k4, k5, k6, k7, k8, steps', e2⟩ := loop_ok ce x0 fuel (kids acc.length f ++ stk) (acc ++ [gd f]) (steps ++ [.tup [.int o, .int a]]) (some (.d (gd f))) (some (.d (.int o))) (some (.d (.int a))) (some (.d .non)) j8'
      (by rw [sz_app]; omega) (by rw [sz_app, List.length_append]; show acc.length + 1 + _ ≤ _; omega) (by rw [sz_app, List.length_append]; show steps.length + 1 + _ ≤ _; omega) (fun p hp => by
        rcases List.mem_append.mp hp with hp | hp
        · exact kids_wf _ hf p hp
        · exact hw p (List.mem_cons_of_mem _ hp))
    refine ⟨k4, k5, k6, k7, k8, steps', ?_⟩
    rw [todo_cons]
    refine zk_whT (test_ok rfl) (by simp) e1 ?_
    rw [e2, preL_app, List.append_assoc]
    show _ = some (Rs.nx (itE ce _ (acc ++ (pre f ++ preL stk).map gd) steps' []))
    rw [kids_pre acc.length f]
    rfl
abbrev ITEMS : Fn := f_items_of WRONG
theorem items_ok {f : Fm} (hf : Wf f) (hl : (pre f).length ≤ 99000) (ce : List Ce) : ITEMS [.d (gd f)] ce = some (.c ce.length, ce ++ [.lst ((pre f).map gd)]) := by
  obtain ⟨k4, k5, k6, k7, k8, steps', e⟩ := loop_ok ce (some (.d (gd f))) 100000 [(f, -1, 0)] [] [] none none none none none (by show (pre f).length + 0 < _; omega) (by show 0 + ((pre f).length + 0) ≤ _; omega) (by show 0 + ((pre f).length + 0) ≤ _; omega) (fun p hp => by
    have e : p = (f, -1, 0) := by simpa using hp
    rw [e]
    exact hf)
  have ep : preL [(f, -1, 0)] = pre f := by
    show pre f ++ [] = _
    rw [List.append_nil]
  rw [ep, List.nil_append] at e
  have e0 : m_items_of WRONG ⟨[some (.d (gd f)), none, none, none, none, none, none, none, none], ce⟩ = some (.rt (.c (ce.length + 0)) (itE ce (itS ce.length (some (.d (gd f))) k4 k5 k6 k7 k8) ((pre f).map gd) steps' [])) := by
    rw [itB_is]
    have a1 : setS 1 (lstM (retM [])) ⟨[some (.d (gd f)), none, none, none, none, none, none, none, none], ce⟩ = some (.nx ⟨[some (.d (gd f)), some (.c (ce.length + 0)), none, none, none, none, none, none, none], ce ++ [.lst []]⟩) := zk_set (zv_lst zv_ret (by show 0 ≤ 100000; decide) zv_fzA0 zv_newL)
    have a2 : setS 2 (lstM (retM [])) ⟨[some (.d (gd f)), some (.c (ce.length + 0)), none, none, none, none, none, none, none], ce ++ [.lst []]⟩ = some (.nx ⟨[some (.d (gd f)), some (.c (ce.length + 0)), some (.c (ce.length + 1)), none, none, none, none, none, none], ce ++ [.lst [], .lst []]⟩) := by
      rw [zk_set (zv_lst zv_ret (by show 0 ≤ 100000; decide) zv_fzA0 zv_newL)]
      simp
    have a3 : setS 3 (lstM (consM (tupM (consM (vM 0) (consM (negM (retM (.d (.int 1)))) (consM (retM (.d (.int 0))) (retM []))))) (retM []))) ⟨[some (.d (gd f)), some (.c (ce.length + 0)), some (.c (ce.length + 1)), none, none, none, none, none, none], ce ++ [.lst [], .lst []]⟩ = some (.nx (itE ce (itS ce.length (some (.d (gd f))) none none none none none) [] [] (todo [(f, -1, 0)]))) := by
      rw [zk_set (zv_lst (zv_cons (zv_tup (zv_cons (zv_var rfl) (zv_cons (zv_neg zv_ret) (zv_cons zv_ret zv_ret))) (by show 3 ≤ 100000; decide) (zv_fzA1 zv_fzD (zv_fzA1 zv_fzD (zv_fzA1 zv_fzD zv_fzA0)))) zv_ret) (by show 1 ≤ 100000; decide) (zv_fzA1 zv_fzD zv_fzA0) zv_newL)]
      simp [itE, itS, todo, tr]
    exact zk_seq a1 (zk_nx (zk_seq a2 (zk_nx (zk_seq a3 (zk_nx (zk_seq e (zk_nx (zk_ret (zv_var rfl)))))))))
  refine zf_rt e0 ?_
  show (if ce.length + 0 < ce.length then _ else _) = _
  rw [if_neg (by omega)]
  show (match (ce ++ [Ce.lst ((pre f).map gd), .lst steps', .lst []])[ce.length + 0]? with
    | some c => some (Vl.c ce.length, (ce ++ [Ce.lst ((pre f).map gd), .lst steps', .lst []]).take ce.length ++ [c])
    | none => none) = _
  rw [get_L (i := 0) rfl, List.take_left]
/-! ### signs_of -/
def sgB : En → Option Rs :=
    (seqS (setS 4 (ixDM k_FORMS_IN (Hk.bindM (vM 3) fun x => Hk.bindM (retM (.d (.int 0))) (ixF x))))
    (seqS (ifS (Hk.bindM (Hk.bindM (vM 4) fun x => Hk.bindM (retM (.d (.int 0))) (op2 eqF x)) boolM)
    (setS 5 (Hk.bindM (consM (vM 3) (retM [])) (tupleF)))
    (ifS (Hk.bindM (Hk.bindM (vM 4) fun x => Hk.bindM (retM (.d (.int 1))) (op2 eqF x)) boolM)
    (setS 5 (tupM (consM (Hk.bindM (vM 3) fun x => Hk.bindM (retM (.d (.int 0))) (ixF x)) (consM (bmM "list" (vM 2) (retM []) popF) (retM [])))))
    (setS 5 (tupM (consM (Hk.bindM (vM 3) fun x => Hk.bindM (retM (.d (.int 0))) (ixF x)) (consM (bmM "list" (vM 2) (retM []) popF) (consM (bmM "list" (vM 2) (retM []) popF) (retM []))))))))
    (seqS (dropS (bmM "list" (vM 2) (consM (vM 5) (retM [])) appF))
    (dropS (bmM "list" (vM 1) (consM (vM 5) (retM [])) appF)))))
theorem sgB_is : m_built = (seqS (setS 1 (lstM (retM [])))
    (seqS (setS 2 (lstM (retM [])))
    (seqS (forS (itemsM (revM (vM 0))) (nameG 3) sgB)
    (retS (revM (vM 1)))))) := rfl
def sgS (n : Nat) (x0 j3 j4 j5 : Option Vl) : List (Option Vl) := [x0, some (.c (n + 0)), some (.c (n + 1)), j3, j4, j5]
def sgE (ce : List Ce) (sl : List (Option Vl)) (S M : List Dt) : En := ⟨sl, ce ++ [.lst S, .lst M, .dead]⟩
theorem head_of (f : Fm) : ∃ w : Str, ixD (gd f) (.int 0) = some (.str w) ∧ look2 w k_FORMS_IN = some (.int (nsub f)) := by
  cases f with
  | yes b => cases b <;> exact ⟨_, rfl, rfl⟩
  | no b => cases b <;> exact ⟨_, rfl, rfl⟩
  | letter b s => cases b <;> exact ⟨_, rfl, rfl⟩
  | act b s t => cases b <;> exact ⟨_, rfl, rfl⟩
  | un b u f => cases b <;> cases u <;> exact ⟨_, rfl, rfl⟩
  | bi b o f g => cases b <;> cases o <;> exact ⟨_, rfl, rfl⟩
/-- what stands on the stack ahead of a form's own turn -/
def under : Fm → List Dt
  | .un _ _ f => [dt f]
  | .bi _ _ f g => [dt g, dt f]
  | _ => []
theorem sign_turn (f : Fm) (x0 j4 j5 : Option Vl) (ce : List Ce) (S M : List Dt) (h1 : S.length < 100000) (h2 : M.length < 100000) :
    ∃ k4 k5, sgB (sgE ce (sgS ce.length x0 (some (.d (gd f))) j4 j5) S (M ++ under f)) = some (.nx (sgE ce (sgS ce.length x0 (some (.d (gd f))) k4 k5) (S ++ [dt f]) (M ++ [dt f]))) := by
  obtain ⟨w, w1, w2⟩ := head_of f
  refine ⟨some (.d (.int (nsub f))), some (.d (dt f)), ?_⟩
  have e0 : ∀ {sl : List (Option Vl)} {ce : List Ce}, sl[3]? = some (some (.d (gd f))) → (Hk.bindM (vM 3) fun x => Hk.bindM (retM (.d (.int 0))) (ixF x)) ⟨sl, ce⟩ = some (.d (.str w), ⟨sl, ce⟩) := fun h => zv_bind (zv_var h) (zv_bind zv_ret (zv_ix zv_seeD zv_seeD w1))
  have e1 : setS 4 (ixDM k_FORMS_IN (Hk.bindM (vM 3) fun x => Hk.bindM (retM (.d (.int 0))) (ixF x))) (sgE ce (sgS ce.length x0 (some (.d (gd f))) j4 j5) S (M ++ under f)) = some (.nx (sgE ce (sgS ce.length x0 (some (.d (gd f))) (some (.d (.int (nsub f)))) j5) S (M ++ under f))) :=
    zk_set (zv_ixD (e0 rfl) w2)
  have e3 : dropS (bmM "list" (vM 2) (consM (vM 5) (retM [])) appF) (sgE ce (sgS ce.length x0 (some (.d (gd f))) (some (.d (.int (nsub f)))) (some (.d (dt f)))) S M) = some (.nx (sgE ce (sgS ce.length x0 (some (.d (gd f))) (some (.d (.int (nsub f)))) (some (.d (dt f)))) S (M ++ [dt f]))) :=
    zk_drop (zv_appL (i := 1) (zv_var rfl) (zv_cons (zv_var rfl) zv_ret) rfl h2 rfl)
  have e4 : dropS (bmM "list" (vM 1) (consM (vM 5) (retM [])) appF) (sgE ce (sgS ce.length x0 (some (.d (gd f))) (some (.d (.int (nsub f)))) (some (.d (dt f)))) S (M ++ [dt f])) = some (.nx (sgE ce (sgS ce.length x0 (some (.d (gd f))) (some (.d (.int (nsub f)))) (some (.d (dt f)))) (S ++ [dt f]) (M ++ [dt f]))) :=
    zk_drop (zv_appL (i := 0) (zv_var rfl) (zv_cons (zv_var rfl) zv_ret) rfl h1 rfl)
  refine zk_seq e1 (zk_nx (zk_seq (Q := .nx (sgE ce (sgS ce.length x0 (some (.d (gd f))) (some (.d (.int (nsub f)))) (some (.d (dt f)))) S M)) ?_ (zk_nx (zk_seq e3 (zk_nx e4)))))
  have at0 : ∀ (ds : List Dt), nsub f = 0 → itemsD (gd f) = some ds → dt f = .tup ds → under f = [] → ifS (Hk.bindM (Hk.bindM (vM 4) fun x => Hk.bindM (retM (.d (.int 0))) (op2 eqF x)) boolM)
    (setS 5 (Hk.bindM (consM (vM 3) (retM [])) (tupleF)))
    (ifS (Hk.bindM (Hk.bindM (vM 4) fun x => Hk.bindM (retM (.d (.int 1))) (op2 eqF x)) boolM)
    (setS 5 (tupM (consM (Hk.bindM (vM 3) fun x => Hk.bindM (retM (.d (.int 0))) (ixF x)) (consM (bmM "list" (vM 2) (retM []) popF) (retM [])))))
    (setS 5 (tupM (consM (Hk.bindM (vM 3) fun x => Hk.bindM (retM (.d (.int 0))) (ixF x)) (consM (bmM "list" (vM 2) (retM []) popF) (consM (bmM "list" (vM 2) (retM []) popF) (retM []))))))) (sgE ce (sgS ce.length x0 (some (.d (gd f))) (some (.d (.int (nsub f)))) j5) S (M ++ under f)) = some (.nx (sgE ce (sgS ce.length x0 (some (.d (gd f))) (some (.d (.int (nsub f)))) (some (.d (dt f)))) S M)) := fun ds hn hi hd hu => by
      rw [hu, List.append_nil, hn, hd]
      exact zk_ifT (zv_bind (zv_bind (zv_var rfl) (zv_bind zv_ret (zv_op2 zv_seeD zv_seeD (zw_eq zq_int)))) zv_bool) rfl (zk_set (zv_bind (zv_cons (zv_var rfl) zv_ret) (zv_tuple zv_seeD hi)))
  cases f with
  | yes b => cases b <;> exact at0 _ rfl rfl rfl rfl
  | no b => cases b <;> exact at0 _ rfl rfl rfl rfl
  | letter b s => cases b <;> exact at0 _ rfl rfl rfl rfl
  | act b s t => cases b <;> exact at0 _ rfl rfl rfl rfl
  | un b u f =>
    have hi : ixD (gd (.un b u f)) (.int 0) = some (.str u.s) := by cases b <;> rfl
    have h0 : ∀ {sl : List (Option Vl)} {ce : List Ce}, sl[3]? = some (some (.d (gd (.un b u f)))) → (Hk.bindM (vM 3) fun x => Hk.bindM (retM (.d (.int 0))) (ixF x)) ⟨sl, ce⟩ = some (.d (.str u.s), ⟨sl, ce⟩) := fun h => zv_bind (zv_var h) (zv_bind zv_ret (zv_ix zv_seeD zv_seeD hi))
    have p1 : bmM "list" (vM 2) (retM []) popF (sgE ce (sgS ce.length x0 (some (.d (gd (.un b u f)))) (some (.d (.int (nsub (.un b u f))))) j5) S (M ++ under (.un b u f))) = some (.d (dt f), sgE ce (sgS ce.length x0 (some (.d (gd (.un b u f)))) (some (.d (.int (nsub (.un b u f))))) j5) S M) := zv_popL (i := 1) (zv_var rfl) rfl rfl
    have q : setS 5 (tupM (consM (Hk.bindM (vM 3) fun x => Hk.bindM (retM (.d (.int 0))) (ixF x)) (consM (bmM "list" (vM 2) (retM []) popF) (retM [])))) (sgE ce (sgS ce.length x0 (some (.d (gd (.un b u f)))) (some (.d (.int (nsub (.un b u f))))) j5) S (M ++ under (.un b u f))) = some (.nx (sgE ce (sgS ce.length x0 (some (.d (gd (.un b u f)))) (some (.d (.int (nsub (.un b u f))))) (some (.d (dt (.un b u f))))) S M)) :=
      zk_set (zv_tup (zv_cons (h0 rfl) (zv_cons p1 zv_ret)) (by show 2 ≤ 100000; decide) (zv_fzA1 zv_fzD (zv_fzA1 zv_fzD zv_fzA0)))
    exact zk_ifF (zv_bind (zv_bind (zv_var rfl) (zv_bind zv_ret (zv_op2 zv_seeD zv_seeD (zw_eq zq_int)))) zv_bool) rfl
      (zk_ifT (zv_bind (zv_bind (zv_var rfl) (zv_bind zv_ret (zv_op2 zv_seeD zv_seeD (zw_eq zq_int)))) zv_bool) rfl q)
  | bi b o f g =>
    have hi : ixD (gd (.bi b o f g)) (.int 0) = some (.str o.s) := by cases b <;> rfl
    have hu : M ++ under (.bi b o f g) = (M ++ [dt g]) ++ [dt f] := by
      show M ++ [dt g, dt f] = _
      rw [List.append_assoc]
      rfl
    rw [hu]
    have h0 : ∀ {sl : List (Option Vl)} {ce : List Ce}, sl[3]? = some (some (.d (gd (.bi b o f g)))) → (Hk.bindM (vM 3) fun x => Hk.bindM (retM (.d (.int 0))) (ixF x)) ⟨sl, ce⟩ = some (.d (.str o.s), ⟨sl, ce⟩) := fun h => zv_bind (zv_var h) (zv_bind zv_ret (zv_ix zv_seeD zv_seeD hi))
    have p1 : bmM "list" (vM 2) (retM []) popF (sgE ce (sgS ce.length x0 (some (.d (gd (.bi b o f g)))) (some (.d (.int (nsub (.bi b o f g))))) j5) S (M ++ [dt g] ++ [dt f])) = some (.d (dt f), sgE ce (sgS ce.length x0 (some (.d (gd (.bi b o f g)))) (some (.d (.int (nsub (.bi b o f g))))) j5) S (M ++ [dt g])) := zv_popL (i := 1) (zv_var rfl) rfl rfl
    have p2 : bmM "list" (vM 2) (retM []) popF (sgE ce (sgS ce.length x0 (some (.d (gd (.bi b o f g)))) (some (.d (.int (nsub (.bi b o f g))))) j5) S (M ++ [dt g])) = some (.d (dt g), sgE ce (sgS ce.length x0 (some (.d (gd (.bi b o f g)))) (some (.d (.int (nsub (.bi b o f g))))) j5) S M) := zv_popL (i := 1) (zv_var rfl) rfl rfl
    have q : setS 5 (tupM (consM (Hk.bindM (vM 3) fun x => Hk.bindM (retM (.d (.int 0))) (ixF x)) (consM (bmM "list" (vM 2) (retM []) popF) (consM (bmM "list" (vM 2) (retM []) popF) (retM []))))) (sgE ce (sgS ce.length x0 (some (.d (gd (.bi b o f g)))) (some (.d (.int (nsub (.bi b o f g))))) j5) S (M ++ [dt g] ++ [dt f])) = some (.nx (sgE ce (sgS ce.length x0 (some (.d (gd (.bi b o f g)))) (some (.d (.int (nsub (.bi b o f g))))) (some (.d (dt (.bi b o f g))))) S M)) :=
      zk_set (zv_tup (zv_cons (h0 rfl) (zv_cons p1 (zv_cons p2 zv_ret))) (by show 3 ≤ 100000; decide) (zv_fzA1 zv_fzD (zv_fzA1 zv_fzD (zv_fzA1 zv_fzD zv_fzA0))))
    exact zk_ifF (zv_bind (zv_bind (zv_var rfl) (zv_bind zv_ret (zv_op2 zv_seeD zv_seeD (zw_eq zq_int)))) zv_bool) rfl
      (zk_ifF (zv_bind (zv_bind (zv_var rfl) (zv_bind zv_ret (zv_op2 zv_seeD zv_seeD (zw_eq zq_int)))) zv_bool) rfl q)
theorem sign_loop (x0 : Option Vl) (ce : List Ce) : ∀ (f : Fm) (S M : List Dt) (j3 j4 j5 : Option Vl), S.length + (pre f).length ≤ 99990 → M.length + (pre f).length ≤ 99990 →
    ∃ k3 k4 k5, ∀ (rest : List Dt) (R : Rs), forL (nameG 3) sgB rest (sgE ce (sgS ce.length x0 k3 k4 k5) (S ++ ((pre f).map dt).reverse) (M ++ [dt f])) = some R →
      forL (nameG 3) sgB (((pre f).map gd).reverse ++ rest) (sgE ce (sgS ce.length x0 j3 j4 j5) S M) = some R := by
  have one : ∀ (f : Fm) (S M : List Dt) (j3 j4 j5 : Option Vl), S.length < 100000 → M.length < 100000 → ∃ k4 k5, ∀ (rest : List Dt) (R : Rs), forL (nameG 3) sgB rest (sgE ce (sgS ce.length x0 (some (.d (gd f))) k4 k5) (S ++ [dt f]) (M ++ [dt f])) = some R →
      forL (nameG 3) sgB (gd f :: rest) (sgE ce (sgS ce.length x0 j3 j4 j5) S (M ++ under f)) = some R := fun f S M j3 j4 j5 h1 h2 => by
    obtain ⟨k4, k5, e⟩ := sign_turn f x0 j4 j5 ce S M h1 h2
    exact ⟨k4, k5, fun rest R h => fl_cons zg_name e h⟩
  have leaf : ∀ (f : Fm) (S M : List Dt) (j3 j4 j5 : Option Vl), pre f = [f] → under f = [] → S.length + (pre f).length ≤ 99990 → M.length + (pre f).length ≤ 99990 → ∃ k3 k4 k5, ∀ (rest : List Dt) (R : Rs), forL (nameG 3) sgB rest (sgE ce (sgS ce.length x0 k3 k4 k5) (S ++ ((pre f).map dt).reverse) (M ++ [dt f])) = some R →
      forL (nameG 3) sgB (((pre f).map gd).reverse ++ rest) (sgE ce (sgS ce.length x0 j3 j4 j5) S M) = some R := fun f S M j3 j4 j5 hp hu h1 h2 => by
    obtain ⟨k4, k5, e⟩ := one f S M j3 j4 j5 (by omega) (by omega)
    rw [hu, List.append_nil] at e
    rw [hp]
    exact ⟨some (.d (gd f)), k4, k5, fun rest R h => e rest R h⟩
  intro f
  induction f with
  | yes b => intro S M j3 j4 j5; exact leaf _ S M j3 j4 j5 rfl rfl
  | no b => intro S M j3 j4 j5; exact leaf _ S M j3 j4 j5 rfl rfl
  | letter b s => intro S M j3 j4 j5; exact leaf _ S M j3 j4 j5 rfl rfl
  | act b s t => intro S M j3 j4 j5; exact leaf _ S M j3 j4 j5 rfl rfl
  | un b u f ih =>
    intro S M j3 j4 j5 h1 h2
    have hp : (pre (.un b u f)).length = (pre f).length + 1 := rfl
    obtain ⟨k3, k4, k5, e1⟩ := ih S M j3 j4 j5 (by omega) (by omega)
    obtain ⟨l4, l5, e2⟩ := one (.un b u f) (S ++ ((pre f).map dt).reverse) M k3 k4 k5 (by simp; omega) (by omega)
    refine ⟨some (.d (gd (.un b u f))), l4, l5, fun rest R h => ?_⟩
    have er : ((pre (.un b u f)).map gd).reverse ++ rest = ((pre f).map gd).reverse ++ (gd (.un b u f) :: rest) := by
      show (gd (.un b u f) :: (pre f).map gd).reverse ++ rest = _
      rw [List.reverse_cons, List.append_assoc]
      rfl
    rw [er]
    refine e1 _ R (e2 rest R ?_)
    have es : S ++ ((pre (.un b u f)).map dt).reverse = S ++ ((pre f).map dt).reverse ++ [dt (.un b u f)] := by
      show S ++ (dt (.un b u f) :: (pre f).map dt).reverse = _
      rw [List.reverse_cons, List.append_assoc]
    rw [es] at h
    exact h
  | bi b o f g ihf ihg =>
    intro S M j3 j4 j5 h1 h2
    have hp : (pre (.bi b o f g)).length = (pre f).length + (pre g).length + 1 := by
      show (pre f ++ pre g).length + 1 = _
      rw [List.length_append]
    obtain ⟨k3, k4, k5, e1⟩ := ihg S M j3 j4 j5 (by omega) (by omega)
    obtain ⟨l3, l4, l5, e2⟩ := ihf (S ++ ((pre g).map dt).reverse) (M ++ [dt g]) k3 k4 k5 (by simp; omega) (by simp; omega)
    obtain ⟨m4, m5, e3⟩ := one (.bi b o f g) (S ++ ((pre g).map dt).reverse ++ ((pre f).map dt).reverse) M l3 l4 l5 (by simp; omega) (by omega)
    refine ⟨some (.d (gd (.bi b o f g))), m4, m5, fun rest R h => ?_⟩
    have er : ((pre (.bi b o f g)).map gd).reverse ++ rest = ((pre g).map gd).reverse ++ (((pre f).map gd).reverse ++ (gd (.bi b o f g) :: rest)) := by
      show (gd (.bi b o f g) :: (pre f ++ pre g).map gd).reverse ++ rest = _
      rw [List.reverse_cons, List.map_append, List.reverse_append]
      simp
    rw [er]
    refine e1 _ R (e2 _ R ?_)
    have em : M ++ [dt g] ++ [dt f] = M ++ under (.bi b o f g) := by
      rw [List.append_assoc]
      rfl
    rw [em]
    refine e3 rest R ?_
    have es : S ++ ((pre (.bi b o f g)).map dt).reverse = S ++ ((pre g).map dt).reverse ++ ((pre f).map dt).reverse ++ [dt (.bi b o f g)] := by
      show S ++ (dt (.bi b o f g) :: (pre f ++ pre g).map dt).reverse = _
      rw [List.reverse_cons, List.map_append, List.reverse_append]
      simp
    rw [es] at h
    exact h
abbrev BUILT : Fn := f_built
theorem built_ok {f : Fm} (hl : (pre f).length ≤ 99000) (ce : List Ce) : BUILT [.d (.lst ((pre f).map gd))] ce = some (.c ce.length, ce ++ [.lst ((pre f).map dt)]) := by
  generalize hx : (some (Vl.d (.lst ((pre f).map gd))) : Option Vl) = x0
  obtain ⟨k3, k4, k5, e⟩ := sign_loop x0 ce f [] [] none none none (by simp; omega) (by simp; omega)
  have e := e [] (.nx (sgE ce (sgS ce.length x0 k3 k4 k5) ([] ++ ((pre f).map dt).reverse) ([] ++ [dt f]))) rfl
  rw [List.append_nil, List.nil_append, List.nil_append] at e
  have e0 : m_built ⟨[x0, none, none, none, none, none], ce⟩ = some (.rt (.c (ce.length + 3)) ⟨sgS ce.length x0 k3 k4 k5, ce ++ [.lst ((pre f).map dt).reverse, .lst [dt f], .dead, .lst ((pre f).map dt)]⟩) := by
    rw [sgB_is]
    have a1 : setS 1 (lstM (retM [])) ⟨[x0, none, none, none, none, none], ce⟩ = some (.nx ⟨[x0, some (.c (ce.length + 0)), none, none, none, none], ce ++ [.lst []]⟩) := zk_set (zv_lst zv_ret (by show 0 ≤ 100000; decide) zv_fzA0 zv_newL)
    have a2 : setS 2 (lstM (retM [])) ⟨[x0, some (.c (ce.length + 0)), none, none, none, none], ce ++ [.lst []]⟩ = some (.nx ⟨sgS ce.length x0 none none none, ce ++ [.lst [], .lst []]⟩) := by
      rw [zk_set (zv_lst zv_ret (by show 0 ≤ 100000; decide) zv_fzA0 zv_newL)]
      simp [sgS]
    have a3 : itemsM (revM (vM 0)) ⟨sgS ce.length x0 none none none, ce ++ [.lst [], .lst []]⟩ = some (((pre f).map gd).reverse, sgE ce (sgS ce.length x0 none none none) [] []) := by
      have h3 : revM (vM 0) ⟨sgS ce.length x0 none none none, ce ++ [.lst [], .lst []]⟩ = some (.c (ce.length + 2), ⟨sgS ce.length x0 none none none, ce ++ [.lst [], .lst [], .lst ((pre f).map gd).reverse]⟩) := by
        have hv : vM 0 ⟨sgS ce.length x0 none none none, ce ++ [.lst [], .lst []]⟩ = some (.d (.lst ((pre f).map gd)), ⟨sgS ce.length x0 none none none, ce ++ [.lst [], .lst []]⟩) := zv_var (by subst hx; rfl)
        rw [zv_rev hv zv_seeD]
        simp
      have h4 := zv_fzC (sl := sgS ce.length x0 none none none) (get_L (ce := ce) (L := [.lst [], .lst [], .lst ((pre f).map gd).reverse]) (i := 2) rfl)
      rw [set_L] at h4
      rw [zv_items h3 h4 rfl]
      have n1 : ¬ (ce.length + 0 = ce.length + 2) := by omega
      have n2 : ¬ (ce.length + 1 = ce.length + 2) := by omega
      subst hx
      show some (_, En.mk [_, some (if ce.length + 0 = ce.length + 2 then _ else .c (ce.length + 0)), some (if ce.length + 1 = ce.length + 2 then _ else .c (ce.length + 1)), none, none, none] _) = _
      rw [if_neg n1, if_neg n2]
      rfl
    have a4 : retS (revM (vM 1)) (sgE ce (sgS ce.length x0 k3 k4 k5) ((pre f).map dt).reverse [dt f]) = some (.rt (.c (ce.length + 3)) ⟨sgS ce.length x0 k3 k4 k5, ce ++ [.lst ((pre f).map dt).reverse, .lst [dt f], .dead, .lst ((pre f).map dt)]⟩) := by
      have h := zv_rev (E := sgE ce (sgS ce.length x0 k3 k4 k5) ((pre f).map dt).reverse [dt f]) (m := vM 1) (zv_var rfl) (zv_seeC (get_L (i := 0) rfl))
      rw [zk_ret h]
      simp
    exact zk_seq a1 (zk_nx (zk_seq a2 (zk_nx (zk_seq (zk_for a3 e) (zk_nx a4)))))
  subst hx
  refine zf_rt e0 ?_
  show (if ce.length + 3 < ce.length then _ else _) = _
  rw [if_neg (by omega)]
  show (match (ce ++ [Ce.lst ((pre f).map dt).reverse, .lst [dt f], .dead, .lst ((pre f).map dt)])[ce.length + 3]? with
    | some c => some (Vl.c ce.length, (ce ++ [Ce.lst ((pre f).map dt).reverse, .lst [dt f], .dead, .lst ((pre f).map dt)]).take ce.length ++ [c])
    | none => none) = _
  rw [get_L (i := 3) rfl, List.take_left]
abbrev SIGNS : Fn := f_signs_of BUILT ITEMS
theorem signs_ok {f : Fm} (hf : Wf f) (hl : (pre f).length ≤ 99000) (ce : List Ce) : SIGNS [.d (gd f)] ce = some (.c ce.length, ce ++ [.lst ((pre f).map dt)]) := by
  have h1 := items_ok hf hl ce
  have h2 : callM ITEMS (consM (fzV (vM 0)) (retM [])) ⟨[some (.d (gd f))], ce⟩ = some (.c ce.length, ⟨[some (.d (gd f))], ce ++ [.lst ((pre f).map gd)]⟩) := zv_call (zv_cons (zv_fzV (zv_var rfl) zv_fzD) zv_ret) h1
  have h3 : fzV (callM ITEMS (consM (fzV (vM 0)) (retM []))) ⟨[some (.d (gd f))], ce⟩ = some (.d (.lst ((pre f).map gd)), ⟨[some (.d (gd f))], ce ++ [.dead]⟩) := by
    have h4 := zv_fzC (sl := [some (.d (gd f))]) (get_new ce (Ce.lst ((pre f).map gd)))
    rw [set_new] at h4
    exact zv_fzV h2 h4
  have h4 : (consM (fzV (callM ITEMS (consM (fzV (vM 0)) (retM [])))) (retM [])) ⟨[some (.d (gd f))], ce⟩ = some ([.d (.lst ((pre f).map gd))], ⟨[some (.d (gd f))], ce ++ [.dead]⟩) := zv_cons h3 zv_ret
  have h6 : callM BUILT (consM (fzV (callM ITEMS (consM (fzV (vM 0)) (retM [])))) (retM [])) ⟨[some (.d (gd f))], ce⟩ = some (.c (ce ++ [Ce.dead]).length, ⟨[some (.d (gd f))], ce ++ [.dead] ++ [.lst ((pre f).map dt)]⟩) := by
    have h7 := built_ok (f := f) hl (ce ++ [Ce.dead])
    exact zv_call (G := BUILT) h4 h7
  have h5 : m_signs_of BUILT ITEMS ⟨[some (.d (gd f))], ce⟩ = some (.rt (.c (ce ++ [Ce.dead]).length) ⟨[some (.d (gd f))], ce ++ [.dead] ++ [.lst ((pre f).map dt)]⟩) := by
    have e : m_signs_of BUILT ITEMS = retS (callM BUILT (consM (fzV (callM ITEMS (consM (fzV (vM 0)) (retM [])))) (retM []))) := rfl
    rw [e]
    exact zk_ret h6
  refine zf_rt h5 ?_
  show (if _ < _ then _ else _) = _
  rw [if_neg (by simp)]
  show (match (ce ++ [Ce.dead] ++ [Ce.lst ((pre f).map dt)])[(ce ++ [Ce.dead]).length]? with
    | some c => some (Vl.c ce.length, (ce ++ [Ce.dead] ++ [Ce.lst ((pre f).map dt)]).take ce.length ++ [c])
    | none => none) = _
  rw [get_new]
  simp
/-! ### the object -/
abbrev INIT : Fn := f_Saying___init__ SIGNS
def sgn (f : Fm) : Dt := .lst ((pre f).map dt)
def sayC (f : Fm) : Ce := .ins "Saying" ["_signs", "_form"] [sgn f, dt f]
def sayD (f : Fm) : Dt := .obj "Saying" ["_signs", "_form"] [sgn f, dt f]
def sgnC (f : Fm) : Ce := .lst ((pre f).map dt)
theorem sgn0 (f : Fm) : ixD (sgn f) (.int 0) = some (dt f) := by
  show atI ((pre f).map dt) ((0 : Nat) : Int) = some (dt f)
  exact atI_nat (by cases f <;> rfl)
theorem init_ok {f : Fm} (hf : Wf f) (hl : (pre f).length ≤ 99000) (ce : List Ce) : INIT [.c ce.length, .d (gd f)] (ce ++ [.ins "Saying" [] []]) = some (.d .non, ce ++ [sayC f]) := by
  have h1 := signs_ok hf hl (ce ++ [.ins "Saying" [] []])
  have a1 : callM SIGNS (consM (fzV (vM 1)) (retM [])) ⟨[some (.c (ce.length + 0)), some (.d (gd f))], ce ++ [.ins "Saying" [] []]⟩ = some (.c (ce.length + 1), ⟨[some (.c (ce.length + 0)), some (.d (gd f))], ce ++ [.ins "Saying" [] [], sgnC f]⟩) := by
    rw [zv_call (zv_cons (zv_fzV (zv_var rfl) zv_fzD) zv_ret) h1]
    simp [sgnC]
  have a2 : fzM (.c (ce.length + 1)) ⟨[some (.c (ce.length + 0)), some (.d (gd f))], ce ++ [.ins "Saying" [] [], sgnC f]⟩ = some (sgn f, ⟨[some (.c (ce.length + 0)), some (.d (gd f))], ce ++ [.ins "Saying" [] [], .dead]⟩) := by
    rw [zv_fzC (get_L (i := 1) rfl), set_L]
    have n1 : ¬ (ce.length + 0 = ce.length + 1) := by omega
    show some (_, En.mk [some (if ce.length + 0 = ce.length + 1 then _ else .c (ce.length + 0)), _] _) = _
    rw [if_neg n1]
    rfl
  have e1 : setFS "Saying" "_signs" (callM SIGNS (consM (fzV (vM 1)) (retM []))) (vM 0) ⟨[some (.c (ce.length + 0)), some (.d (gd f))], ce ++ [.ins "Saying" [] []]⟩ = some (.nx ⟨[some (.c (ce.length + 0)), some (.d (gd f))], ce ++ [.ins "Saying" ["_signs"] [sgn f], .dead]⟩) := by
    rw [zk_setF a1 a2 (zv_var rfl) (get_L (i := 0) rfl) (by decide), set_L]
    rfl
  have a3 : (Hk.bindM (fldM "Saying" "_signs" (vM 0)) fun x => Hk.bindM (retM (.d (.int 0))) (ixF x)) ⟨[some (.c (ce.length + 0)), some (.d (gd f))], ce ++ [.ins "Saying" ["_signs"] [sgn f], .dead]⟩ = some (.d (dt f), ⟨[some (.c (ce.length + 0)), some (.d (gd f))], ce ++ [.ins "Saying" ["_signs"] [sgn f], .dead]⟩) :=
    zv_bind (zv_fld (zv_var rfl) (zv_seeX (get_L (i := 0) rfl) rfl) (d := sgn f) rfl) (zv_bind zv_ret (zv_ix zv_seeD zv_seeD (sgn0 f)))
  have e2 : setFS "Saying" "_form" (Hk.bindM (fldM "Saying" "_signs" (vM 0)) fun x => Hk.bindM (retM (.d (.int 0))) (ixF x)) (vM 0) ⟨[some (.c (ce.length + 0)), some (.d (gd f))], ce ++ [.ins "Saying" ["_signs"] [sgn f], .dead]⟩ = some (.nx ⟨[some (.c (ce.length + 0)), some (.d (gd f))], ce ++ [sayC f, .dead]⟩) := by
    rw [zk_setF a3 zv_fzD (zv_var rfl) (get_L (i := 0) rfl) (by decide), set_L]
    rfl
  refine zf_nx (zk_seq e1 (zk_nx e2)) ?_
  refine trim_d ?_
  show (ce ++ ([sayC f] ++ [Ce.dead])).take (ce ++ [Ce.ins "Saying" [] []]).length = _
  rw [← List.append_assoc, show (ce ++ [Ce.ins "Saying" [] []]).length = (ce ++ [sayC f]).length by simp, List.take_left]
theorem make_ok {f : Fm} (hf : Wf f) (hl : (pre f).length ≤ 99000) {m : M (List Vl)} {E : En} {sl : List (Option Vl)} {ce : List Ce} (h : m E = some ([.d (gd f)], ⟨sl, ce⟩)) : makeM "Saying" INIT m E = some (.c ce.length, ⟨sl, ce ++ [sayC f]⟩) := zv_make h (init_ok hf hl ce)
/-- a value that is seen as a saying -/
def Say (ce : List Ce) (x : Vl) (f : Fm) : Prop := see ce x = some (sayD f)
/-- tuples throughout -/
def Pl : Fm → Prop
  | .yes b => b = false
  | .no b => b = false
  | .letter b _ => b = false
  | .act b _ _ => b = false
  | .un b _ f => b = false ∧ Pl f
  | .bi b _ f g => b = false ∧ Pl f ∧ Pl g
theorem Pl.eq : ∀ {f : Fm}, Pl f → gd f = dt f
  | .yes _, h => by cases h; rfl
  | .no _, h => by cases h; rfl
  | .letter _ _, h => by cases h; rfl
  | .act _ _ _, h => by cases h; rfl
  | .un _ _ f, ⟨h, h2⟩ => by
    cases h
    show Dt.tup [_, gd f] = Dt.tup [_, dt f]
    rw [Pl.eq h2]
  | .bi _ _ f g, ⟨h, h2, h3⟩ => by
    cases h
    show Dt.tup [_, gd f, gd g] = Dt.tup [_, dt f, dt g]
    rw [Pl.eq h2, Pl.eq h3]
/-! ### leaves that are read back -/
/-! ### texts -/
def mkS (l : List Nat) : Str := ⟨l.toArray⟩
def wd (s : Str) : List Nat := s.cps.toList
theorem mkS_wd (s : Str) : mkS (wd s) = s := by
  cases s
  rfl
theorem mkS_app (a b : List Nat) : mkS a ++ mkS b = mkS (a ++ b) := by
  show Str.mk (a.toArray ++ b.toArray) = Str.mk (a ++ b).toArray
  simp
theorem mkS_len (l : List Nat) : (mkS l).length = l.length := by
  show l.toArray.size = l.length
  simp
theorem wd_mkS (l : List Nat) : wd (mkS l) = l := by
  show l.toArray.toList = l
  simp
theorem empty_app (l : List Nat) : Str.empty ++ mkS l = mkS l := mkS_app [] l
def Un.c : Un → Nat
  | .not => 126
  | .box => 35
def Bi.c : Bi → Nat
  | .and => 38
  | .or => 124
  | .iff => 62
def Bi.m (o : Bi) : List Nat := [32, o.c, 32]
def tl : Fm → List Nat
  | .yes _ => wd "yes"
  | .no _ => wd "no"
  | .letter _ s => wd s
  | .act _ s t => wd s ++ [45] ++ wd t
  | .un _ u f => u.c :: tl f
  | .bi _ o f g => 40 :: (tl f ++ o.m ++ tl g ++ [41])
def tx (f : Fm) : Str := mkS (tl f)
def txD (f : Fm) : Dt := .str (tx f)
/-- leaves with small words -/
def Ws : Fm → Prop
  | .letter _ s => Small s
  | .act _ s t => Small s ∧ Small t
  | .un _ _ f => Ws f
  | .bi _ _ f g => Ws f ∧ Ws g
  | _ => True
theorem wd_len (s : Str) : (wd s).length = s.length := by
  show s.cps.toList.length = s.cps.size
  simp
theorem tl_len : ∀ {f : Fm}, Ws f → (tl f).length ≤ 20 * (pre f).length
  | .yes _, _ => by show (wd "yes").length ≤ 20 * 1; decide +kernel
  | .no _, _ => by show (wd "no").length ≤ 20 * 1; decide +kernel
  | .letter _ s, h => by
    show (wd s).length ≤ 20 * 1
    rw [wd_len]
    have := h.2.1
    omega
  | .act _ s t, h => by
    show (wd s ++ [45] ++ wd t).length ≤ 20 * 1
    rw [List.length_append, List.length_append, wd_len, wd_len]
    have := h.1.2.1
    have := h.2.2.1
    simp only [List.length_cons, List.length_nil]
    omega
  | .un _ _ f, h => by
    have := tl_len (f := f) h
    simp only [tl, pre, List.length_cons]
    omega
  | .bi _ o f g, h => by
    have := tl_len h.1
    have := tl_len h.2
    simp only [tl, pre, List.length_cons, List.length_append, Bi.m, List.length_nil]
    omega
theorem zv_js0 {acc : Str} {E : En} : jsM [] acc E = some (.d (.str acc), E) := rfl
theorem zv_js {m : M Vl} {ms : List (M Vl)} {acc y : Str} {E E1 E2 : En} {z : Vl} (h : m E = some (.d (.str y), E1)) (hl : (acc ++ y).length ≤ 100000) (g : jsM ms (acc ++ y) E1 = some (z, E2)) : jsM (m :: ms) acc E = some (z, E2) := zv_bind h (by
  show (if _ then _ else _ : M Vl) E1 = _
  rw [if_pos (sz_of hl)]
  exact g)
theorem zv_fmt {m : M Vl} {y : Str} {E E1 : En} (h : m E = some (.d (.str y), E1)) (hl : y.length ≤ 100000) : fmtM m E = some (.d (.str y), E1) := zv_bind h (by
  show (if _ then _ else _ : M Vl) E1 = _
  rw [if_pos (sz_of hl)]
  rfl)
theorem zv_inA {neg : Bool} {tb : List (Str × Dt)} {m : M Vl} {s : Str} {E E1 : En} (h : m E = some (.d (.str s), E1)) : inAM neg tb m E = some (.d (.bl (if (look2 s tb).isSome = true then !neg else neg)), E1) := zv_bind h rfl
/-! ### text_with -/
abbrev TW : Fn := f_text_with
def inner : Fm → List Dt
  | .un _ _ f => [txD f]
  | .bi _ _ f g => [txD f, txD g]
  | _ => []
def hw : Fm → Str
  | .yes _ => "yes"
  | .no _ => "no"
  | .letter _ _ => "letter"
  | .act _ _ _ => "act"
  | .un _ u _ => u.s
  | .bi _ o _ _ => o.s
theorem dt0 (f : Fm) : ixD (dt f) (.int 0) = some (.str (hw f)) := by
  cases f <;> rfl
theorem eqw {a b : Str} {k : Bool} (ha : PyData.strOk a = true) (hb : PyData.strOk b = true) (h : decide (a = b) = k) : eqF (.str a) (.str b) = some (.bl k) := zw_eq (by rw [zq_str ha hb, h])
def isL : Fm → Bool
  | .letter _ _ => true
  | _ => false
def isA : Fm → Bool
  | .act _ _ _ => true
  | _ => false
theorem hw_ok (f : Fm) : PyData.strOk (hw f) = true := by
  cases f with
  | yes b => show PyData.strOk "yes" = true; decide +kernel
  | no b => show PyData.strOk "no" = true; decide +kernel
  | letter b s => show PyData.strOk "letter" = true; decide +kernel
  | act b s t => show PyData.strOk "act" = true; decide +kernel
  | un b u f => cases u <;> (first | (show PyData.strOk "not" = true; decide +kernel) | (show PyData.strOk "box" = true; decide +kernel))
  | bi b o f g => cases o <;> (first | (show PyData.strOk "and" = true; decide +kernel) | (show PyData.strOk "or" = true; decide +kernel) | (show PyData.strOk "if" = true; decide +kernel))
theorem hw_L (f : Fm) : decide (hw f = "letter") = isL f := by
  cases f with
  | yes b => show decide (("yes" : Str) = "letter") = false; decide +kernel
  | no b => show decide (("no" : Str) = "letter") = false; decide +kernel
  | letter b s => show decide (("letter" : Str) = "letter") = true; decide +kernel
  | act b s t => show decide (("act" : Str) = "letter") = false; decide +kernel
  | un b u f => cases u <;> (first | (show decide (("not" : Str) = "letter") = false; decide +kernel) | (show decide (("box" : Str) = "letter") = false; decide +kernel))
  | bi b o f g => cases o <;> (first | (show decide (("and" : Str) = "letter") = false; decide +kernel) | (show decide (("or" : Str) = "letter") = false; decide +kernel) | (show decide (("if" : Str) = "letter") = false; decide +kernel))
theorem hw_A (f : Fm) : decide (hw f = "act") = isA f := by
  cases f with
  | yes b => show decide (("yes" : Str) = "act") = false; decide +kernel
  | no b => show decide (("no" : Str) = "act") = false; decide +kernel
  | letter b s => show decide (("letter" : Str) = "act") = false; decide +kernel
  | act b s t => show decide (("act" : Str) = "act") = true; decide +kernel
  | un b u f => cases u <;> (first | (show decide (("not" : Str) = "act") = false; decide +kernel) | (show decide (("box" : Str) = "act") = false; decide +kernel))
  | bi b o f g => cases o <;> (first | (show decide (("and" : Str) = "act") = false; decide +kernel) | (show decide (("or" : Str) = "act") = false; decide +kernel) | (show decide (("if" : Str) = "act") = false; decide +kernel))
theorem eL {f : Fm} {k : Bool} (h : isL f = k) : eqF (.str (hw f)) (.str "letter") = some (.bl k) := eqw (hw_ok f) (by decide +kernel) (by rw [hw_L, h])
theorem eA {f : Fm} {k : Bool} (h : isA f = k) : eqF (.str (hw f)) (.str "act") = some (.bl k) := eqw (hw_ok f) (by decide +kernel) (by rw [hw_A, h])
theorem tw_ok {f : Fm} (hw0 : Ws f) (hl : (pre f).length ≤ 1000) (ce : List Ce) : TW [.d (dt f), .d (.lst (inner f))] ce = some (.d (txD f), ce) := by
  have hb := tl_len hw0
  have key : m_text_with ⟨[some (.d (dt f)), some (.d (.lst (inner f))), none], ce⟩ = some (.rt (.d (txD f)) ⟨[some (.d (dt f)), some (.d (.lst (inner f))), some (.d (.str (hw f)))], ce⟩) → TW [.d (dt f), .d (.lst (inner f))] ce = some (.d (txD f), ce) := fun e => zf_rt e (trim_d List.take_length)
  have e0 : setS 2 (Hk.bindM (vM 0) fun x => Hk.bindM (retM (.d (.int 0))) (ixF x)) ⟨[some (.d (dt f)), some (.d (.lst (inner f))), none], ce⟩ = some (.nx ⟨[some (.d (dt f)), some (.d (.lst (inner f))), some (.d (.str (hw f)))], ce⟩) := by
    have e : (Hk.bindM (vM 0) fun x => Hk.bindM (retM (.d (.int 0))) (ixF x)) ⟨[some (.d (dt f)), some (.d (.lst (inner f))), none], ce⟩ = some (.d (.str (hw f)), ⟨[some (.d (dt f)), some (.d (.lst (inner f))), none], ce⟩) := zv_bind (zv_var rfl) (zv_bind zv_ret (zv_ix zv_seeD zv_seeD (dt0 f)))
    exact zk_set e
  have tst : ∀ {w : Str} {k : Bool}, eqF (.str (hw f)) (.str w) = some (.bl k) → (Hk.bindM (Hk.bindM (vM 2) fun x => Hk.bindM (retM (.d (.str w))) (op2 eqF x)) boolM) ⟨[some (.d (dt f)), some (.d (.lst (inner f))), some (.d (.str (hw f)))], ce⟩ = some (k, ⟨[some (.d (dt f)), some (.d (.lst (inner f))), some (.d (.str (hw f)))], ce⟩) := fun h => zv_bind (zv_bind (zv_var rfl) (zv_bind zv_ret (zv_op2 zv_seeD zv_seeD h))) zv_bool
  have tin : ∀ {tb : List (Str × Dt)} {k : Bool}, (if (look2 (hw f) tb).isSome = true then !false else false) = k → (Hk.bindM (inAM false tb (vM 2)) boolM) ⟨[some (.d (dt f)), some (.d (.lst (inner f))), some (.d (.str (hw f)))], ce⟩ = some (k, ⟨[some (.d (dt f)), some (.d (.lst (inner f))), some (.d (.str (hw f)))], ce⟩) := fun h => by
    subst h
    exact zv_bind (zv_inA (zv_var rfl)) zv_bool
  have sub : ∀ {i : Int} {d : Dt}, ixD (dt f) (.int i) = some d → (Hk.bindM (vM 0) fun x => Hk.bindM (retM (.d (.int i))) (ixF x)) ⟨[some (.d (dt f)), some (.d (.lst (inner f))), some (.d (.str (hw f)))], ce⟩ = some (.d d, ⟨[some (.d (dt f)), some (.d (.lst (inner f))), some (.d (.str (hw f)))], ce⟩) := fun h => zv_bind (zv_var rfl) (zv_bind zv_ret (zv_ix zv_seeD zv_seeD h))
  have inn : ∀ {i : Int} {d : Dt}, ixD (.lst (inner f)) (.int i) = some d → (Hk.bindM (vM 1) fun x => Hk.bindM (retM (.d (.int i))) (ixF x)) ⟨[some (.d (dt f)), some (.d (.lst (inner f))), some (.d (.str (hw f)))], ce⟩ = some (.d d, ⟨[some (.d (dt f)), some (.d (.lst (inner f))), some (.d (.str (hw f)))], ce⟩) := fun h => zv_bind (zv_var rfl) (zv_bind zv_ret (zv_ix zv_seeD zv_seeD h))
  cases f with
  | yes b =>
    refine key (zk_seq e0 (zk_nx (zk_seq (zk_ifF (tst (k := false) (eL rfl)) rfl zk_nil) (zk_nx (zk_seq (zk_ifF (tst (k := false) (eA rfl)) rfl zk_nil) (zk_nx (zk_seq (zk_ifF (tin (k := false) rfl) rfl zk_nil) (zk_nx (zk_seq (zk_ifF (tin (k := false) rfl) rfl zk_nil) (zk_nx (zk_ret ?_)))))))))))
    exact zv_var rfl
  | no b =>
    refine key (zk_seq e0 (zk_nx (zk_seq (zk_ifF (tst (k := false) (eL rfl)) rfl zk_nil) (zk_nx (zk_seq (zk_ifF (tst (k := false) (eA rfl)) rfl zk_nil) (zk_nx (zk_seq (zk_ifF (tin (k := false) rfl) rfl zk_nil) (zk_nx (zk_seq (zk_ifF (tin (k := false) rfl) rfl zk_nil) (zk_nx (zk_ret ?_)))))))))))
    exact zv_var rfl
  | letter b s =>
    refine key (zk_seq e0 (zk_nx (zk_seq (zk_ifT (tst (k := true) (eL rfl)) rfl (zk_ret (sub (i := 1) ?_))) zk_rt)))
    show some (Dt.str s) = some (txD (.letter b s))
    rw [show txD (.letter b s) = .str (mkS (wd s)) from rfl, mkS_wd]
  | act b s t =>
    have h1 := hw0.1.2.1
    have h2 := hw0.2.2.1
    have ls : (mkS (wd s)).length = s.length := by rw [mkS_wd]
    have lt : (mkS (wd t)).length = t.length := by rw [mkS_wd]
    have hdash : (("-" : Str)) = mkS [45] := by decide +kernel
    refine key (zk_seq e0 (zk_nx (zk_seq (zk_ifF (tst (k := false) (eL rfl)) rfl zk_nil) (zk_nx (zk_seq (zk_ifT (tst (k := true) (eA rfl)) rfl (zk_ret ?_)) zk_rt)))))
    have a1 : (Hk.bindM (vM 0) fun x => Hk.bindM (retM (.d (.int 1))) (ixF x)) ⟨[some (.d (dt (.act b s t))), some (.d (.lst (inner (.act b s t)))), some (.d (.str (hw (.act b s t))))], ce⟩ = some (.d (.str (mkS (wd s))), ⟨[some (.d (dt (.act b s t))), some (.d (.lst (inner (.act b s t)))), some (.d (.str (hw (.act b s t))))], ce⟩) := by
      rw [mkS_wd]
      exact sub (i := 1) rfl
    have a2 : (Hk.bindM (vM 0) fun x => Hk.bindM (retM (.d (.int 2))) (ixF x)) ⟨[some (.d (dt (.act b s t))), some (.d (.lst (inner (.act b s t)))), some (.d (.str (hw (.act b s t))))], ce⟩ = some (.d (.str (mkS (wd t))), ⟨[some (.d (dt (.act b s t))), some (.d (.lst (inner (.act b s t)))), some (.d (.str (hw (.act b s t))))], ce⟩) := by
      rw [mkS_wd]
      exact sub (i := 2) rfl
    refine zv_js (zv_fmt a1 (by omega)) (by rw [empty_app]; omega) ?_
    rw [empty_app, hdash]
    refine zv_js zv_ret (by rw [mkS_app, mkS_len, List.length_append, wd_len]; simp only [List.length_cons, List.length_nil]; omega) ?_
    rw [mkS_app]
    refine zv_js (zv_fmt a2 (by omega)) (by rw [mkS_app, mkS_len, List.length_append, List.length_append, wd_len, wd_len]; simp only [List.length_cons, List.length_nil]; omega) ?_
    rw [mkS_app]
    exact zv_js0
  | un b u f =>
    have hb2 : (tl f).length ≤ 30000 := by
      have := tl_len (f := f) hw0
      have : (pre (.un b u f)).length = (pre f).length + 1 := rfl
      omega
    have e1 : TW [.d (dt (.un b u f)), .d (.lst (inner (.un b u f)))] ce = TW [.d (dt (.un b u f)), .d (.lst (inner (.un b u f)))] ce := rfl
    have tail : ∀ {c : Str}, c = mkS [u.c] → ixDM k_AHEAD (vM 2) ⟨[some (.d (dt (.un b u f))), some (.d (.lst (inner (.un b u f)))), some (.d (.str (hw (.un b u f))))], ce⟩ = some (.d (.str c), ⟨[some (.d (dt (.un b u f))), some (.d (.lst (inner (.un b u f)))), some (.d (.str (hw (.un b u f))))], ce⟩) →
        (Hk.bindM (ixDM k_AHEAD (vM 2)) fun x => Hk.bindM (Hk.bindM (vM 1) fun x => Hk.bindM (retM (.d (.int 0))) (ixF x)) (addF x)) ⟨[some (.d (dt (.un b u f))), some (.d (.lst (inner (.un b u f)))), some (.d (.str (hw (.un b u f))))], ce⟩ = some (.d (txD (.un b u f)), ⟨[some (.d (dt (.un b u f))), some (.d (.lst (inner (.un b u f)))), some (.d (.str (hw (.un b u f))))], ce⟩) := fun hc h => by
      have e : txD (.un b u f) = .str (mkS [u.c] ++ mkS (tl f)) := by
        rw [mkS_app]
        rfl
      rw [e]
      rw [hc] at h
      exact zv_bind h (zv_bind (inn (i := 0) (d := .str (mkS (tl f))) rfl) (zv_addS zv_seeD zv_seeD (sz_of (by rw [mkS_len, mkS_len]; simp only [List.length_cons, List.length_nil]; omega))))
    cases u with
    | not =>
      refine key (zk_seq e0 (zk_nx (zk_seq (zk_ifF (tst (k := false) (eL rfl)) rfl zk_nil) (zk_nx (zk_seq (zk_ifF (tst (k := false) (eA rfl)) rfl zk_nil) (zk_nx (zk_seq (zk_ifT (tin (k := true) rfl) rfl (zk_ret (tail (c := "~") (by decide +kernel) (zv_ixD (zv_var rfl) rfl)))) zk_rt)))))))
    | box =>
      refine key (zk_seq e0 (zk_nx (zk_seq (zk_ifF (tst (k := false) (eL rfl)) rfl zk_nil) (zk_nx (zk_seq (zk_ifF (tst (k := false) (eA rfl)) rfl zk_nil) (zk_nx (zk_seq (zk_ifT (tin (k := true) rfl) rfl (zk_ret (tail (c := "#") (by decide +kernel) (zv_ixD (zv_var rfl) rfl)))) zk_rt)))))))
  | bi b o f g =>
    have hb2 : (tl f).length ≤ 30000 := by
      have := tl_len hw0.1
      have : (pre (.bi b o f g)).length = (pre f ++ pre g).length + 1 := rfl
      rw [List.length_append] at this
      omega
    have hb3 : (tl g).length ≤ 30000 := by
      have := tl_len hw0.2
      have : (pre (.bi b o f g)).length = (pre f ++ pre g).length + 1 := rfl
      rw [List.length_append] at this
      omega
    have p1 : (("(" : Str)) = mkS [40] := by decide +kernel
    have p2 : ((")" : Str)) = mkS [41] := by decide +kernel
    have tail : ∀ {c : Str}, c = mkS o.m → ixDM k_BETWEEN (vM 2) ⟨[some (.d (dt (.bi b o f g))), some (.d (.lst (inner (.bi b o f g)))), some (.d (.str (hw (.bi b o f g))))], ce⟩ = some (.d (.str c), ⟨[some (.d (dt (.bi b o f g))), some (.d (.lst (inner (.bi b o f g)))), some (.d (.str (hw (.bi b o f g))))], ce⟩) →
        jsM [(retM (.d (.str "("))), (fmtM (Hk.bindM (vM 1) fun x => Hk.bindM (retM (.d (.int 0))) (ixF x))), (fmtM (ixDM k_BETWEEN (vM 2))), (fmtM (Hk.bindM (vM 1) fun x => Hk.bindM (retM (.d (.int 1))) (ixF x))), (retM (.d (.str ")")))] Str.empty ⟨[some (.d (dt (.bi b o f g))), some (.d (.lst (inner (.bi b o f g)))), some (.d (.str (hw (.bi b o f g))))], ce⟩ = some (.d (txD (.bi b o f g)), ⟨[some (.d (dt (.bi b o f g))), some (.d (.lst (inner (.bi b o f g)))), some (.d (.str (hw (.bi b o f g))))], ce⟩) := fun hc h => by
      rw [hc] at h
      have lm : (mkS o.m).length = 3 := by rw [mkS_len]; rfl
      have e : txD (.bi b o f g) = .str (mkS ([40] ++ tl f ++ o.m ++ tl g ++ [41])) := by
        show Dt.str (mkS (40 :: (tl f ++ o.m ++ tl g ++ [41]))) = _
        simp
      rw [e, p1, p2]
      refine zv_js zv_ret (by rw [empty_app, mkS_len]; simp only [List.length_cons, List.length_nil]; omega) ?_
      rw [empty_app]
      refine zv_js (zv_fmt (inn (i := 0) (d := .str (mkS (tl f))) rfl) (by rw [mkS_len]; omega)) (by rw [mkS_app, mkS_len, List.length_append]; simp only [List.length_cons, List.length_nil]; omega) ?_
      rw [mkS_app]
      refine zv_js (zv_fmt h (by omega)) (by rw [mkS_app, mkS_len, List.length_append, List.length_append]; simp only [List.length_cons, List.length_nil, Bi.m]; omega) ?_
      rw [mkS_app]
      refine zv_js (zv_fmt (inn (i := 1) (d := .str (mkS (tl g))) rfl) (by rw [mkS_len]; omega)) (by rw [mkS_app, mkS_len, List.length_append, List.length_append, List.length_append]; simp only [List.length_cons, List.length_nil, Bi.m]; omega) ?_
      rw [mkS_app]
      refine zv_js zv_ret (by rw [mkS_app, mkS_len, List.length_append, List.length_append, List.length_append, List.length_append]; simp only [List.length_cons, List.length_nil, Bi.m]; omega) ?_
      rw [mkS_app]
      exact zv_js0
    cases o with
    | and => exact key (zk_seq e0 (zk_nx (zk_seq (zk_ifF (tst (k := false) (eL rfl)) rfl zk_nil) (zk_nx (zk_seq (zk_ifF (tst (k := false) (eA rfl)) rfl zk_nil) (zk_nx (zk_seq (zk_ifF (tin (k := false) rfl) rfl zk_nil) (zk_nx (zk_seq (zk_ifT (tin (k := true) rfl) rfl (zk_ret (tail (c := " & ") (by decide +kernel) (zv_ixD (zv_var rfl) rfl)))) zk_rt)))))))))
    | or => exact key (zk_seq e0 (zk_nx (zk_seq (zk_ifF (tst (k := false) (eL rfl)) rfl zk_nil) (zk_nx (zk_seq (zk_ifF (tst (k := false) (eA rfl)) rfl zk_nil) (zk_nx (zk_seq (zk_ifF (tin (k := false) rfl) rfl zk_nil) (zk_nx (zk_seq (zk_ifT (tin (k := true) rfl) rfl (zk_ret (tail (c := " | ") (by decide +kernel) (zv_ixD (zv_var rfl) rfl)))) zk_rt)))))))))
    | iff => exact key (zk_seq e0 (zk_nx (zk_seq (zk_ifF (tst (k := false) (eL rfl)) rfl zk_nil) (zk_nx (zk_seq (zk_ifF (tst (k := false) (eA rfl)) rfl zk_nil) (zk_nx (zk_seq (zk_ifF (tin (k := false) rfl) rfl zk_nil) (zk_nx (zk_seq (zk_ifT (tin (k := true) rfl) rfl (zk_ret (tail (c := " > ") (by decide +kernel) (zv_ixD (zv_var rfl) rfl)))) zk_rt)))))))))
/-! ### texts_of -/
def txC : M Vl := compM [6] (rng1M (consM (ixDM k_FORMS_IN (Hk.bindM (vM 3) fun x => Hk.bindM (retM (.d (.int 0))) (ixF x))) (retM []))) (nameG 6) (retM true) (bmM "list" (vM 2) (retM []) popF)
def txB : En → Option Rs := (seqS (setS 4 txC)
    (seqS (setS 5 (callM TW (consM (fzV (vM 3)) (consM (fzV (vM 4)) (retM [])))))
    (seqS (dropS (bmM "list" (vM 2) (consM (vM 5) (retM [])) appF))
    (dropS (bmM "list" (vM 1) (consM (vM 5) (retM [])) appF)))))
theorem tx_is : m_texts_of TW = (seqS (setS 1 (lstM (retM [])))
    (seqS (setS 2 (lstM (retM [])))
    (seqS (forS (itemsM (revM (vM 0))) (nameG 3) txB)
    (retS (revM (vM 1)))))) := rfl
def tsl (n : Nat) (d0 : Dt) (j3 j4 j5 j6 : Option Vl) : List (Option Vl) := [some (.d d0), some (.c (n + 0)), some (.c (n + 1)), j3, j4, j5, j6]
def tst (ce : List Ce) (S M : List Dt) (D : List Ce) : List Ce := ce ++ (.lst S :: .lst M :: D)
theorem tst_len {ce : List Ce} {S M : List Dt} {D : List Ce} : (tst ce S M D).length = ce.length + (D.length + 2) := by
  show (ce ++ (.lst S :: .lst M :: D)).length = _
  rw [List.length_append]
  rfl
theorem tst_new {ce : List Ce} {S M : List Dt} {D : List Ce} {c : Ce} : tst ce S M D ++ [c] = tst ce S M (D ++ [c]) := by
  show (ce ++ (.lst S :: .lst M :: D)) ++ [c] = _
  rw [List.append_assoc]
  rfl
theorem tst_get {ce : List Ce} {S M : List Dt} {D : List Ce} {c : Ce} : (tst ce S M (D ++ [c]))[ce.length + (D.length + 2)]? = some c := by
  refine get_L ?_
  show (D ++ [c])[D.length]? = some c
  exact get_new D c
theorem tst_set {ce : List Ce} {S M : List Dt} {D : List Ce} {c c' : Ce} : (tst ce S M (D ++ [c])).set (ce.length + (D.length + 2)) c' = tst ce S M (D ++ [c']) := by
  show (ce ++ _).set _ _ = _
  rw [set_L]
  show ce ++ (.lst S :: .lst M :: (D ++ [c]).set D.length c') = _
  rw [set_new]
  rfl
theorem tsl_map {n k : Nat} {d0 d3 : Dt} {j5 : Option Vl} {d : Dt} (h0 : n + 0 ≠ k) (h1 : n + 1 ≠ k) : (tsl n d0 (some (.d d3)) (some (.c k)) j5 none).map (Option.map (frzV k d)) = tsl n d0 (some (.d d3)) (some (.d d)) (j5.map (frzV k d)) none := by
  show [some (Vl.d d0), some (if n + 0 = k then _ else .c (n + 0)), some (if n + 1 = k then _ else .c (n + 1)), some (Vl.d d3), some (if k = k then _ else _), _, none] = _
  rw [if_neg h0, if_neg h1, if_pos rfl]
  rfl
theorem pops {ce : List Ce} {S : List Dt} {D : List Ce} {d0 : Dt} {j3 j4 j5 : Option Vl} : ∀ (T : List Dt) (ds : List Dt) (M acc : List Dt) (j6 : Option Vl), T.length = ds.length → acc.length + T.length ≤ 1000 →
    ∃ k6, compL [6] (ce.length + (D.length + 2)) (nameG 6) (retM true) (bmM "list" (vM 2) (retM []) popF) ds ⟨tsl ce.length d0 j3 j4 j5 j6, tst ce S (M ++ T.reverse) (D ++ [.lst acc])⟩ = some ⟨tsl ce.length d0 j3 j4 j5 k6, tst ce S M (D ++ [.lst (acc ++ T)])⟩
  | [], ds, M, acc, j6, hl, ha => by
    cases ds with
    | cons d ds => cases hl
    | nil =>
      refine ⟨j6, ?_⟩
      simp [compL]
  | t :: T, ds, M, acc, j6, hl, ha => by
    cases ds with
    | nil => cases hl
    | cons d ds =>
      simp only [List.length_cons] at hl ha
      have hM : M ++ (t :: T).reverse = (M ++ T.reverse) ++ [t] := by simp
      have hm : (bmM "list" (vM 2) (retM []) popF) ⟨tsl ce.length d0 j3 j4 j5 (some (.d d)), tst ce S (M ++ (t :: T).reverse) (D ++ [.lst acc])⟩ = some (.d t, ⟨tsl ce.length d0 j3 j4 j5 (some (.d d)), tst ce S (M ++ T.reverse) (D ++ [.lst acc])⟩) := by
        rw [hM]
        exact zv_popL (i := 1) (zv_var rfl) rfl rfl
      have ht : turnC [6] (ce.length + (D.length + 2)) (nameG 6) (retM true) (bmM "list" (vM 2) (retM []) popF) d ⟨tsl ce.length d0 j3 j4 j5 j6, tst ce S (M ++ (t :: T).reverse) (D ++ [.lst acc])⟩ = some ⟨tsl ce.length d0 j3 j4 j5 (some (.d d)), tst ce S (M ++ T.reverse) (D ++ [.lst (acc ++ [t])])⟩ := by
        rw [zt_yes (E1 := ⟨tsl ce.length d0 j3 j4 j5 (some (.d d)), tst ce S (M ++ (t :: T).reverse) (D ++ [.lst acc])⟩) rfl rfl hm zv_fzD tst_get (by omega), tst_set]
      obtain ⟨k6, e⟩ := pops (ce := ce) (S := S) (D := D) (d0 := d0) (j3 := j3) (j4 := j4) (j5 := j5) T ds M (acc ++ [t]) (some (.d d)) (by omega) (by simp; omega)
      refine ⟨k6, ?_⟩
      rw [List.append_assoc acc] at e
      rw [compL_cons, ht]
      exact e
theorem txC_ok {f : Fm} {ce : List Ce} {S M : List Dt} {D : List Ce} {d0 : Dt} {j4 j5 : Option Vl} : txC ⟨tsl ce.length d0 (some (.d (dt f))) j4 j5 none, tst ce S (M ++ (inner f).reverse) D⟩ = some (.c (ce.length + (D.length + 2)), ⟨tsl ce.length d0 (some (.d (dt f))) j4 j5 none, tst ce S M (D ++ [.lst (inner f)])⟩) := by
  have hn : look2 (hw f) k_FORMS_IN = some (.int ((inner f).length : Nat)) := by
    cases f with
    | un b u f => cases u <;> rfl
    | bi b o f g => cases o <;> rfl
    | _ => rfl
  have e0 : (Hk.bindM (vM 3) fun x => Hk.bindM (retM (.d (.int 0))) (ixF x)) ⟨tsl ce.length d0 (some (.d (dt f))) j4 j5 none, tst ce S (M ++ (inner f).reverse) D⟩ = some (.d (.str (hw f)), ⟨tsl ce.length d0 (some (.d (dt f))) j4 j5 none, tst ce S (M ++ (inner f).reverse) D⟩) := zv_bind (zv_var rfl) (zv_bind zv_ret (zv_ix zv_seeD zv_seeD (dt0 f)))
  have hlen : (inner f).length ≤ 2 := by cases f <;> simp [inner]
  have e1 : rng1M (consM (ixDM k_FORMS_IN (Hk.bindM (vM 3) fun x => Hk.bindM (retM (.d (.int 0))) (ixF x))) (retM [])) ⟨tsl ce.length d0 (some (.d (dt f))) j4 j5 none, tst ce S (M ++ (inner f).reverse) D⟩ = some (rngL 0 (inner f).length, ⟨tsl ce.length d0 (some (.d (dt f))) j4 j5 none, tst ce S (M ++ (inner f).reverse) D⟩) := by
    rw [zv_rng1 (zv_cons (zv_ixD e0 hn) zv_ret) (by omega), Int.toNat_natCast]
  obtain ⟨k6, e2⟩ := pops (ce := ce) (S := S) (D := D) (d0 := d0) (j3 := some (.d (dt f))) (j4 := j4) (j5 := j5) (inner f) (rngL 0 (inner f).length) M [] none (by rw [rng_len]) (by simp; omega)
  rw [List.nil_append, ← tst_new, ← tst_len (S := S) (M := M ++ (inner f).reverse) (D := D)] at e2
  have e3 := zv_comp e1 e2
  rw [tst_len] at e3
  exact e3
theorem tx_turn {f : Fm} (hw0 : Ws f) (hl : (pre f).length ≤ 1000) {ce : List Ce} {S M : List Dt} {D : List Ce} {d0 : Dt} {j4 j5 : Option Vl} (hS : S.length < 100000) (hM : M.length < 100000) :
    txB ⟨tsl ce.length d0 (some (.d (dt f))) j4 j5 none, tst ce S (M ++ (inner f).reverse) D⟩ = some (.nx ⟨tsl ce.length d0 (some (.d (dt f))) (some (.d (.lst (inner f)))) (some (.d (txD f))) none, tst ce (S ++ [txD f]) (M ++ [txD f]) (D ++ [.dead])⟩) := by
  have a1 := zk_set (i := 4) (txC_ok (f := f) (ce := ce) (S := S) (M := M) (D := D) (d0 := d0) (j4 := j4) (j5 := j5))
  have a2 : fzV (vM 4) ⟨tsl ce.length d0 (some (.d (dt f))) (some (.c (ce.length + (D.length + 2)))) j5 none, tst ce S M (D ++ [.lst (inner f)])⟩ = some (.d (.lst (inner f)), ⟨tsl ce.length d0 (some (.d (dt f))) (some (.d (.lst (inner f)))) (j5.map (frzV (ce.length + (D.length + 2)) (.lst (inner f)))) none, tst ce S M (D ++ [.dead])⟩) := by
    have h := zv_fzC (sl := tsl ce.length d0 (some (.d (dt f))) (some (.c (ce.length + (D.length + 2)))) j5 none) (tst_get (ce := ce) (S := S) (M := M) (D := D) (c := .lst (inner f)))
    rw [tst_set, tsl_map (by omega) (by omega)] at h
    exact zv_fzV (x := .c (ce.length + (D.length + 2))) (zv_var rfl) h
  have a3 : callM TW (consM (fzV (vM 3)) (consM (fzV (vM 4)) (retM []))) ⟨tsl ce.length d0 (some (.d (dt f))) (some (.c (ce.length + (D.length + 2)))) j5 none, tst ce S M (D ++ [.lst (inner f)])⟩ = some (.d (txD f), ⟨tsl ce.length d0 (some (.d (dt f))) (some (.d (.lst (inner f)))) (j5.map (frzV (ce.length + (D.length + 2)) (.lst (inner f)))) none, tst ce S M (D ++ [.dead])⟩) :=
    zv_call (zv_cons (zv_fzV (zv_var rfl) zv_fzD) (zv_cons a2 zv_ret)) (tw_ok hw0 hl _)
  have a4 := zk_set (i := 5) a3
  have a5 : dropS (bmM "list" (vM 2) (consM (vM 5) (retM [])) appF) ⟨tsl ce.length d0 (some (.d (dt f))) (some (.d (.lst (inner f)))) (some (.d (txD f))) none, tst ce S M (D ++ [.dead])⟩ = some (.nx ⟨tsl ce.length d0 (some (.d (dt f))) (some (.d (.lst (inner f)))) (some (.d (txD f))) none, tst ce S (M ++ [txD f]) (D ++ [.dead])⟩) :=
    zk_drop (zv_appL (i := 1) (zv_var rfl) (zv_cons (zv_var rfl) zv_ret) rfl hM rfl)
  have a6 : dropS (bmM "list" (vM 1) (consM (vM 5) (retM [])) appF) ⟨tsl ce.length d0 (some (.d (dt f))) (some (.d (.lst (inner f)))) (some (.d (txD f))) none, tst ce S (M ++ [txD f]) (D ++ [.dead])⟩ = some (.nx ⟨tsl ce.length d0 (some (.d (dt f))) (some (.d (.lst (inner f)))) (some (.d (txD f))) none, tst ce (S ++ [txD f]) (M ++ [txD f]) (D ++ [.dead])⟩) :=
    zk_drop (zv_appL (i := 0) (zv_var rfl) (zv_cons (zv_var rfl) zv_ret) rfl hS rfl)
  exact zk_seq a1 (zk_nx (zk_seq a4 (zk_nx (zk_seq a5 (zk_nx a6)))))
def deads (n : Nat) : List Ce := List.replicate n .dead
theorem tx_loop (ce : List Ce) (d0 : Dt) : ∀ (f : Fm) (S M : List Dt) (D : List Ce) (j3 j4 j5 : Option Vl), Ws f → (pre f).length ≤ 1000 → S.length + (pre f).length ≤ 99990 → M.length + (pre f).length ≤ 99990 →
    ∃ k3 k4 k5, ∀ (rest : List Dt) (R : Rs), forL (nameG 3) txB rest ⟨tsl ce.length d0 k3 k4 k5 none, tst ce (S ++ ((pre f).map txD).reverse) (M ++ [txD f]) (D ++ deads (pre f).length)⟩ = some R →
      forL (nameG 3) txB (((pre f).map dt).reverse ++ rest) ⟨tsl ce.length d0 j3 j4 j5 none, tst ce S M D⟩ = some R := by
  have one : ∀ (f : Fm) (S M : List Dt) (D : List Ce) (j3 j4 j5 : Option Vl), Ws f → (pre f).length ≤ 1000 → S.length < 100000 → M.length < 100000 → ∃ k4 k5, ∀ (rest : List Dt) (R : Rs), forL (nameG 3) txB rest ⟨tsl ce.length d0 (some (.d (dt f))) k4 k5 none, tst ce (S ++ [txD f]) (M ++ [txD f]) (D ++ [.dead])⟩ = some R →
      forL (nameG 3) txB (dt f :: rest) ⟨tsl ce.length d0 j3 j4 j5 none, tst ce S (M ++ (inner f).reverse) D⟩ = some R := fun f S M D j3 j4 j5 hw hl h1 h2 => ⟨_, _, fun rest R h => fl_cons zg_name (tx_turn hw hl h1 h2) h⟩
  have leaf : ∀ (f : Fm) (S M : List Dt) (D : List Ce) (j3 j4 j5 : Option Vl), pre f = [f] → inner f = [] → Ws f → (pre f).length ≤ 1000 → S.length + (pre f).length ≤ 99990 → M.length + (pre f).length ≤ 99990 → ∃ k3 k4 k5, ∀ (rest : List Dt) (R : Rs), forL (nameG 3) txB rest ⟨tsl ce.length d0 k3 k4 k5 none, tst ce (S ++ ((pre f).map txD).reverse) (M ++ [txD f]) (D ++ deads (pre f).length)⟩ = some R →
      forL (nameG 3) txB (((pre f).map dt).reverse ++ rest) ⟨tsl ce.length d0 j3 j4 j5 none, tst ce S M D⟩ = some R := fun f S M D j3 j4 j5 hp hu hw hl h1 h2 => by
    obtain ⟨k4, k5, e⟩ := one f S M D j3 j4 j5 hw hl (by omega) (by omega)
    rw [hu, List.reverse_nil, List.append_nil] at e
    rw [hp]
    exact ⟨some (.d (dt f)), k4, k5, fun rest R h => e rest R h⟩
  have dd : ∀ a b : Nat, deads a ++ deads b = deads (a + b) := fun a b => by
    unfold deads
    rw [List.replicate_append_replicate]
  intro f
  induction f with
  | yes b => intro S M D j3 j4 j5; exact leaf _ S M D j3 j4 j5 rfl rfl
  | no b => intro S M D j3 j4 j5; exact leaf _ S M D j3 j4 j5 rfl rfl
  | letter b s => intro S M D j3 j4 j5; exact leaf _ S M D j3 j4 j5 rfl rfl
  | act b s t => intro S M D j3 j4 j5; exact leaf _ S M D j3 j4 j5 rfl rfl
  | un b u f ih =>
    intro S M D j3 j4 j5 hw hl h1 h2
    have hp : (pre (.un b u f)).length = (pre f).length + 1 := rfl
    obtain ⟨k3, k4, k5, e1⟩ := ih S M D j3 j4 j5 hw (by omega) (by omega) (by omega)
    obtain ⟨l4, l5, e2⟩ := one (.un b u f) (S ++ ((pre f).map txD).reverse) M (D ++ deads (pre f).length) k3 k4 k5 hw hl (by simp; omega) (by omega)
    refine ⟨some (.d (dt (.un b u f))), l4, l5, fun rest R h => ?_⟩
    have er : ((pre (.un b u f)).map dt).reverse ++ rest = ((pre f).map dt).reverse ++ (dt (.un b u f) :: rest) := by
      show (dt (.un b u f) :: (pre f).map dt).reverse ++ rest = _
      rw [List.reverse_cons, List.append_assoc]
      rfl
    rw [er]
    refine e1 _ R (e2 rest R ?_)
    have es : S ++ ((pre (.un b u f)).map txD).reverse = S ++ ((pre f).map txD).reverse ++ [txD (.un b u f)] := by
      show S ++ (txD (.un b u f) :: (pre f).map txD).reverse = _
      rw [List.reverse_cons, List.append_assoc]
    have ed : D ++ deads (pre (.un b u f)).length = D ++ deads (pre f).length ++ [.dead] := by
      rw [hp, ← dd, List.append_assoc]
      rfl
    rw [es, ed] at h
    exact h
  | bi b o f g ihf ihg =>
    intro S M D j3 j4 j5 hw hl h1 h2
    have hp : (pre (.bi b o f g)).length = (pre f).length + (pre g).length + 1 := by
      show (pre f ++ pre g).length + 1 = _
      rw [List.length_append]
    obtain ⟨k3, k4, k5, e1⟩ := ihg S M D j3 j4 j5 hw.2 (by omega) (by omega) (by omega)
    obtain ⟨l3, l4, l5, e2⟩ := ihf (S ++ ((pre g).map txD).reverse) (M ++ [txD g]) (D ++ deads (pre g).length) k3 k4 k5 hw.1 (by omega) (by simp; omega) (by simp; omega)
    obtain ⟨m4, m5, e3⟩ := one (.bi b o f g) (S ++ ((pre g).map txD).reverse ++ ((pre f).map txD).reverse) M (D ++ deads (pre g).length ++ deads (pre f).length) l3 l4 l5 hw hl (by simp; omega) (by omega)
    refine ⟨some (.d (dt (.bi b o f g))), m4, m5, fun rest R h => ?_⟩
    have er : ((pre (.bi b o f g)).map dt).reverse ++ rest = ((pre g).map dt).reverse ++ (((pre f).map dt).reverse ++ (dt (.bi b o f g) :: rest)) := by
      show (dt (.bi b o f g) :: (pre f ++ pre g).map dt).reverse ++ rest = _
      rw [List.reverse_cons, List.map_append, List.reverse_append]
      simp
    rw [er]
    refine e1 _ R (e2 _ R ?_)
    have em : M ++ [txD g] ++ [txD f] = M ++ (inner (.bi b o f g)).reverse := by
      rw [List.append_assoc]
      rfl
    rw [em]
    refine e3 rest R ?_
    have es : S ++ ((pre (.bi b o f g)).map txD).reverse = S ++ ((pre g).map txD).reverse ++ ((pre f).map txD).reverse ++ [txD (.bi b o f g)] := by
      show S ++ (txD (.bi b o f g) :: (pre f ++ pre g).map txD).reverse = _
      rw [List.reverse_cons, List.map_append, List.reverse_append]
      simp
    have ed : D ++ deads (pre (.bi b o f g)).length = D ++ deads (pre g).length ++ deads (pre f).length ++ [.dead] := by
      rw [hp, List.append_assoc, List.append_assoc, show [Ce.dead] = deads 1 from rfl, dd, dd]
      congr 2
      omega
    rw [es, ed] at h
    exact h
abbrev TEXTS : Fn := f_texts_of TW
theorem texts_ok {f : Fm} (hw : Ws f) (hl : (pre f).length ≤ 1000) (ce : List Ce) : TEXTS [.d (.lst ((pre f).map dt))] ce = some (.c ce.length, ce ++ [.lst ((pre f).map txD)]) := by
  obtain ⟨k3, k4, k5, e⟩ := tx_loop ce (.lst ((pre f).map dt)) f [] [] [.dead] none none none hw hl (by simp; omega) (by simp; omega)
  have e := e [] _ rfl
  rw [List.append_nil, List.nil_append, List.nil_append] at e
  have e0 : m_texts_of TW ⟨[some (.d (.lst ((pre f).map dt))), none, none, none, none, none, none], ce⟩ = some (.rt (.c (ce.length + ((pre f).length + 3))) ⟨tsl ce.length (.lst ((pre f).map dt)) k3 k4 k5 none, tst ce ((pre f).map txD).reverse [txD f] ([.dead] ++ deads (pre f).length ++ [.lst ((pre f).map txD)])⟩) := by
    rw [tx_is]
    have a1 : setS 1 (lstM (retM [])) ⟨[some (.d (.lst ((pre f).map dt))), none, none, none, none, none, none], ce⟩ = some (.nx ⟨[some (.d (.lst ((pre f).map dt))), some (.c (ce.length + 0)), none, none, none, none, none], ce ++ [.lst []]⟩) := zk_set (zv_lst zv_ret (by show 0 ≤ 100000; decide) zv_fzA0 zv_newL)
    have a2 : setS 2 (lstM (retM [])) ⟨[some (.d (.lst ((pre f).map dt))), some (.c (ce.length + 0)), none, none, none, none, none], ce ++ [.lst []]⟩ = some (.nx ⟨tsl ce.length (.lst ((pre f).map dt)) none none none none, tst ce [] [] []⟩) := by
      rw [zk_set (zv_lst zv_ret (by show 0 ≤ 100000; decide) zv_fzA0 zv_newL)]
      simp [tsl, tst]
    have a3 : itemsM (revM (vM 0)) ⟨tsl ce.length (.lst ((pre f).map dt)) none none none none, tst ce [] [] []⟩ = some (((pre f).map dt).reverse, ⟨tsl ce.length (.lst ((pre f).map dt)) none none none none, tst ce [] [] [.dead]⟩) := by
      have h3 : revM (vM 0) ⟨tsl ce.length (.lst ((pre f).map dt)) none none none none, tst ce [] [] []⟩ = some (.c (ce.length + 2), ⟨tsl ce.length (.lst ((pre f).map dt)) none none none none, tst ce [] [] ([] ++ [.lst ((pre f).map dt).reverse])⟩) := by
        rw [zv_rev (zv_var rfl) zv_seeD, tst_new, tst_len]
        rfl
      have h4 := zv_fzC (sl := tsl ce.length (.lst ((pre f).map dt)) none none none none) (tst_get (ce := ce) (S := []) (M := []) (D := []) (c := .lst ((pre f).map dt).reverse))
      rw [tst_set] at h4
      have h5 : (tsl ce.length (.lst ((pre f).map dt)) none none none none).map (Option.map (frzV (ce.length + ((([] : List Ce).length) + 2)) (.lst ((pre f).map dt).reverse))) = tsl ce.length (.lst ((pre f).map dt)) none none none none := by
        have n1 : ¬ (ce.length + 0 = ce.length + 2) := by omega
        have n2 : ¬ (ce.length + 1 = ce.length + 2) := by omega
        show [some (Vl.d _), some (if ce.length + 0 = ce.length + 2 then _ else .c (ce.length + 0)), some (if ce.length + 1 = ce.length + 2 then _ else .c (ce.length + 1)), none, none, none, none] = _
        rw [if_neg n1, if_neg n2]
        rfl
      rw [h5] at h4
      exact zv_items h3 h4 rfl
    have a4 : retS (revM (vM 1)) ⟨tsl ce.length (.lst ((pre f).map dt)) k3 k4 k5 none, tst ce ((pre f).map txD).reverse [txD f] ([.dead] ++ deads (pre f).length)⟩ = some (.rt (.c (ce.length + ((pre f).length + 3))) ⟨tsl ce.length (.lst ((pre f).map dt)) k3 k4 k5 none, tst ce ((pre f).map txD).reverse [txD f] ([.dead] ++ deads (pre f).length ++ [.lst ((pre f).map txD)])⟩) := by
      have h := zv_rev (sl := tsl ce.length (.lst ((pre f).map dt)) k3 k4 k5 none) (ce := tst ce ((pre f).map txD).reverse [txD f] ([.dead] ++ deads (pre f).length)) (m := vM 1) (zv_var rfl) (zv_seeC (get_L (i := 0) rfl))
      rw [tst_new, tst_len] at h
      rw [zk_ret h]
      simp [deads]
    exact zk_seq a1 (zk_nx (zk_seq a2 (zk_nx (zk_seq (zk_for a3 e) (zk_nx a4)))))
  refine zf_rt e0 ?_
  show (if ce.length + ((pre f).length + 3) < ce.length then _ else _) = _
  rw [if_neg (by omega)]
  have hg : (tst ce ((pre f).map txD).reverse [txD f] ([.dead] ++ deads (pre f).length ++ [.lst ((pre f).map txD)]))[ce.length + ((pre f).length + 3)]? = some (.lst ((pre f).map txD)) := by
    have h := tst_get (ce := ce) (S := ((pre f).map txD).reverse) (M := [txD f]) (D := [.dead] ++ deads (pre f).length) (c := .lst ((pre f).map txD))
    have hl : ([Ce.dead] ++ deads (pre f).length).length + 2 = (pre f).length + 3 := by
      simp [deads]
    rw [hl] at h
    exact h
  show (match (tst ce ((pre f).map txD).reverse [txD f] ([Ce.dead] ++ deads (pre f).length ++ [Ce.lst ((pre f).map txD)]))[ce.length + ((pre f).length + 3)]? with
    | some c => some (Vl.c ce.length, (tst ce ((pre f).map txD).reverse [txD f] ([Ce.dead] ++ deads (pre f).length ++ [Ce.lst ((pre f).map txD)])).take ce.length ++ [c])
    | none => none) = _
  rw [hg]
  show some (Vl.c ce.length, (ce ++ _).take ce.length ++ _) = _
  rw [List.take_left]
/-! ### the law's own texts -/
abbrev LT : Nat → Fn := f__law_text
def ltD : M Vl := dgM (dspM 3 [((retM (.d (.str "and"))), (retM (.d (.str " & ")))), ((retM (.d (.str "or"))), (retM (.d (.str " | ")))), ((retM (.d (.str "if"))), (retM (.d (.str " > "))))]) (vM 1)
def ltU (F : Fn) : M Vl := Hk.bindM (ifM (Hk.bindM (Hk.bindM (vM 1) fun x => Hk.bindM (retM (.d (.str "not"))) (op2 eqF x)) boolM) (retM (.d (.str "~"))) (retM (.d (.str "#")))) fun x => Hk.bindM (callM F (consM (fzV (Hk.bindM (vM 0) fun x => Hk.bindM (retM (.d (.int 1))) (ixF x))) (retM []))) (addF x)
def ltB (F : Fn) : M Vl := Hk.bindM (Hk.bindM (Hk.bindM (Hk.bindM (retM (.d (.str "("))) fun x => Hk.bindM (callM F (consM (fzV (Hk.bindM (vM 0) fun x => Hk.bindM (retM (.d (.int 1))) (ixF x))) (retM []))) (addF x)) fun x => Hk.bindM (vM 2) (addF x)) fun x => Hk.bindM (callM F (consM (fzV (Hk.bindM (vM 0) fun x => Hk.bindM (retM (.d (.int 2))) (ixF x))) (retM []))) (addF x)) fun x => Hk.bindM (retM (.d (.str ")"))) (addF x)
def ltA : M Vl := Hk.bindM (Hk.bindM (Hk.bindM (vM 0) fun x => Hk.bindM (retM (.d (.int 1))) (ixF x)) fun x => Hk.bindM (retM (.d (.str "-"))) (addF x)) fun x => Hk.bindM (Hk.bindM (vM 0) fun x => Hk.bindM (retM (.d (.int 2))) (ixF x)) (addF x)
def inT2 : M Bool := Hk.bindM (Hk.bindM (vM 1) fun x => Hk.bindM (tupM (consM (retM (.d (.str "not"))) (consM (retM (.d (.str "box"))) (retM [])))) (op2 (inF false) x)) boolM
def inT3 : M Bool := Hk.bindM (Hk.bindM (vM 1) fun x => Hk.bindM (tupM (consM (retM (.d (.str "and"))) (consM (retM (.d (.str "or"))) (consM (retM (.d (.str "if"))) (retM []))))) (op2 (inF false) x)) boolM
theorem lt_is (F : Fn) : m__law_text F = (seqS (setS 1 (Hk.bindM (vM 0) fun x => Hk.bindM (retM (.d (.int 0))) (ixF x)))
    (seqS (ifS (Hk.bindM (Hk.bindM (vM 1) fun x => Hk.bindM (retM (.d (.str "letter"))) (op2 eqF x)) boolM) (retS (Hk.bindM (vM 0) fun x => Hk.bindM (retM (.d (.int 1))) (ixF x))) nilS)
    (seqS (ifS (Hk.bindM (Hk.bindM (vM 1) fun x => Hk.bindM (retM (.d (.str "act"))) (op2 eqF x)) boolM) (retS ltA) nilS)
    (seqS (ifS inT2 (retS (ltU F)) nilS)
    (seqS (ifS inT3 (seqS (setS 2 ltD) (retS (ltB F))) nilS)
    (retS (vM 1))))))) := rfl
def lsl (f : Fm) (j : Option Vl) : List (Option Vl) := [some (.d (dt f)), some (.d (.str (hw f))), j]
theorem zv_addSS {a b : List Nat} {E : En} {x y : Vl} (h1 : see E.ce x = some (.str (mkS a))) (h2 : see E.ce y = some (.str (mkS b))) (h : a.length + b.length ≤ 100000) : addF x y E = some (.d (.str (mkS (a ++ b))), E) := by
  rw [zv_addS h1 h2 (sz_of (by rw [mkS_len, mkS_len]; exact h)), mkS_app]
theorem lt_ok : ∀ (n : Nat) (f : Fm), Ws f → (pre f).length ≤ n → (pre f).length ≤ 1000 → ∀ ce : List Ce, LT n [.d (dt f)] ce = some (.d (txD f), ce)
  | 0, f, _, h, _ => by
    exfalso
    cases f <;> simp [pre] at h
  | n + 1, f, hw0, hn, hl => fun ce => by
    have key : ∀ {j : Option Vl} {D : List Ce}, m__law_text (LT n) ⟨[some (.d (dt f)), none, none], ce⟩ = some (.rt (.d (txD f)) ⟨lsl f j, ce ++ D⟩) → LT (n + 1) [.d (dt f)] ce = some (.d (txD f), ce) := fun e => zf_rt (nl := 2) (m := m__law_text (LT n)) e (trim_d List.take_left)
    have key0 : m__law_text (LT n) ⟨[some (.d (dt f)), none, none], ce⟩ = some (.rt (.d (txD f)) ⟨lsl f none, ce⟩) → LT (n + 1) [.d (dt f)] ce = some (.d (txD f), ce) := fun e => key (D := []) (by rw [List.append_nil]; exact e)
    rw [lt_is] at key key0
    have e00 : (Hk.bindM (vM 0) fun x => Hk.bindM (retM (.d (.int 0))) (ixF x)) ⟨[some (.d (dt f)), none, none], ce⟩ = some (.d (.str (hw f)), ⟨[some (.d (dt f)), none, none], ce⟩) := zv_bind (zv_var rfl) (zv_bind zv_ret (zv_ix zv_seeD zv_seeD (dt0 f)))
    have e0 : setS 1 (Hk.bindM (vM 0) fun x => Hk.bindM (retM (.d (.int 0))) (ixF x)) ⟨[some (.d (dt f)), none, none], ce⟩ = some (.nx ⟨lsl f none, ce⟩) := zk_set e00
    have tst : ∀ {w : Str} {k : Bool}, eqF (.str (hw f)) (.str w) = some (.bl k) → (Hk.bindM (Hk.bindM (vM 1) fun x => Hk.bindM (retM (.d (.str w))) (op2 eqF x)) boolM) ⟨lsl f none, ce⟩ = some (k, ⟨lsl f none, ce⟩) := fun h => zv_bind (zv_bind (zv_var rfl) (zv_bind zv_ret (zv_op2 zv_seeD zv_seeD h))) zv_bool
    have t2 : ∀ {k : Bool}, inF false (.str (hw f)) (.tup [.str "not", .str "box"]) = some (.bl k) → inT2 ⟨lsl f none, ce⟩ = some (k, ⟨lsl f none, ce⟩) := fun h => zv_bind (zv_bind (zv_var rfl) (zv_bind (zv_tup (zv_cons zv_ret (zv_cons zv_ret zv_ret)) (by show 2 ≤ 100000; decide) (zv_fzA1 zv_fzD (zv_fzA1 zv_fzD zv_fzA0))) (zv_op2 zv_seeD zv_seeD h))) zv_bool
    have t3 : ∀ {k : Bool}, inF false (.str (hw f)) (.tup [.str "and", .str "or", .str "if"]) = some (.bl k) → inT3 ⟨lsl f none, ce⟩ = some (k, ⟨lsl f none, ce⟩) := fun h => zv_bind (zv_bind (zv_var rfl) (zv_bind (zv_tup (zv_cons zv_ret (zv_cons zv_ret (zv_cons zv_ret zv_ret))) (by show 3 ≤ 100000; decide) (zv_fzA1 zv_fzD (zv_fzA1 zv_fzD (zv_fzA1 zv_fzD zv_fzA0)))) (zv_op2 zv_seeD zv_seeD h))) zv_bool
    have sub : ∀ {i : Int} {d : Dt} {j : Option Vl} {c2 : List Ce}, ixD (dt f) (.int i) = some d → (Hk.bindM (vM 0) fun x => Hk.bindM (retM (.d (.int i))) (ixF x)) ⟨lsl f j, c2⟩ = some (.d d, ⟨lsl f j, c2⟩) := fun h => zv_bind (zv_var rfl) (zv_bind zv_ret (zv_ix zv_seeD zv_seeD h))
    have yn : isL f = false → isA f = false → inF false (.str (hw f)) (.tup [.str "not", .str "box"]) = some (.bl false) → inF false (.str (hw f)) (.tup [.str "and", .str "or", .str "if"]) = some (.bl false) → txD f = .str (hw f) → LT (n + 1) [.d (dt f)] ce = some (.d (txD f), ce) := fun h1 h2 h3 h4 h5 => by
      refine key0 (zk_seq e0 (zk_nx (zk_seq (zk_ifF (tst (eL h1)) rfl zk_nil) (zk_nx (zk_seq (zk_ifF (tst (eA h2)) rfl zk_nil) (zk_nx (zk_seq (zk_ifF (t2 h3) rfl zk_nil) (zk_nx (zk_seq (zk_ifF (t3 h4) rfl zk_nil) (zk_nx (zk_ret ?_)))))))))))
      rw [h5]
      exact zv_var rfl
    cases f with
    | yes b => exact yn rfl rfl rfl rfl rfl
    | no b => exact yn rfl rfl rfl rfl rfl
    | letter b s =>
      refine key0 (zk_seq e0 (zk_nx (zk_seq (zk_ifT (tst (eL rfl)) rfl (zk_ret (sub ?_))) zk_rt)))
      show some (Dt.str s) = some (txD (.letter b s))
      rw [show txD (.letter b s) = .str (mkS (wd s)) from rfl, mkS_wd]
    | act b s t =>
      have h1 := hw0.1.2.1
      have h2 := hw0.2.2.1
      have hdash : (("-" : Str)) = mkS [45] := by decide +kernel
      have a1 : (Hk.bindM (vM 0) fun x => Hk.bindM (retM (.d (.int 1))) (ixF x)) ⟨lsl (.act b s t) none, ce⟩ = some (.d (.str (mkS (wd s))), ⟨lsl (.act b s t) none, ce⟩) := by
        rw [mkS_wd]
        exact sub rfl
      have a2 : (Hk.bindM (vM 0) fun x => Hk.bindM (retM (.d (.int 2))) (ixF x)) ⟨lsl (.act b s t) none, ce⟩ = some (.d (.str (mkS (wd t))), ⟨lsl (.act b s t) none, ce⟩) := by
        rw [mkS_wd]
        exact sub rfl
      have a3 : (Hk.bindM (Hk.bindM (vM 0) fun x => Hk.bindM (retM (.d (.int 1))) (ixF x)) fun x => Hk.bindM (retM (.d (.str "-"))) (addF x)) ⟨lsl (.act b s t) none, ce⟩ = some (.d (.str (mkS (wd s ++ [45]))), ⟨lsl (.act b s t) none, ce⟩) := by
        rw [hdash]
        exact zv_bind a1 (zv_bind zv_ret (zv_addSS zv_seeD zv_seeD (by rw [wd_len]; simp only [List.length_cons, List.length_nil]; omega)))
      have a4 : ltA ⟨lsl (.act b s t) none, ce⟩ = some (.d (txD (.act b s t)), ⟨lsl (.act b s t) none, ce⟩) :=
        zv_bind a3 (zv_bind a2 (zv_addSS zv_seeD zv_seeD (by rw [List.length_append, wd_len, wd_len]; simp only [List.length_cons, List.length_nil]; omega)))
      exact key0 (zk_seq e0 (zk_nx (zk_seq (zk_ifF (tst (eL rfl)) rfl zk_nil) (zk_nx (zk_seq (zk_ifT (tst (eA rfl)) rfl (zk_ret a4)) zk_rt)))))
    | un b u f =>
      have hp : (pre (.un b u f)).length = (pre f).length + 1 := rfl
      have ih := lt_ok n f hw0 (by omega) (by omega) ce
      have hb := tl_len (f := f) hw0
      have a1 : callM (LT n) (consM (fzV (Hk.bindM (vM 0) fun x => Hk.bindM (retM (.d (.int 1))) (ixF x))) (retM [])) ⟨lsl (.un b u f) none, ce⟩ = some (.d (.str (mkS (tl f))), ⟨lsl (.un b u f) none, ce⟩) := zv_call (G := LT n) (zv_cons (zv_fzV (sub (d := dt f) rfl) zv_fzD) zv_ret) ih
      have a2 : ifM (Hk.bindM (Hk.bindM (vM 1) fun x => Hk.bindM (retM (.d (.str "not"))) (op2 eqF x)) boolM) (retM (Vl.d (.str "~"))) (retM (Vl.d (.str "#"))) ⟨lsl (.un b u f) none, ce⟩ = some (.d (.str (mkS [u.c])), ⟨lsl (.un b u f) none, ce⟩) := by
        cases u with
        | not =>
          have e : mkS [Un.not.c] = "~" := by decide +kernel
          rw [e]
          exact zv_ifT (tst (k := true) (eqw (hw_ok _) (by decide +kernel) (by show decide (("not" : Str) = "not") = true; decide +kernel))) rfl zv_ret
        | box =>
          have e : mkS [Un.box.c] = "#" := by decide +kernel
          rw [e]
          exact zv_ifF (tst (k := false) (eqw (hw_ok _) (by decide +kernel) (by show decide (("box" : Str) = "not") = false; decide +kernel))) rfl zv_ret
      have a3 : ltU (LT n) ⟨lsl (.un b u f) none, ce⟩ = some (.d (txD (.un b u f)), ⟨lsl (.un b u f) none, ce⟩) :=
        zv_bind a2 (zv_bind a1 (zv_addSS zv_seeD zv_seeD (by simp only [List.length_cons, List.length_nil]; omega)))
      exact key0 (zk_seq e0 (zk_nx (zk_seq (zk_ifF (tst (eL rfl)) rfl zk_nil) (zk_nx (zk_seq (zk_ifF (tst (eA rfl)) rfl zk_nil) (zk_nx (zk_seq (zk_ifT (t2 (k := true) (by cases u <;> rfl)) rfl (zk_ret a3)) zk_rt)))))))
    | bi b o f g =>
      have hp : (pre (.bi b o f g)).length = (pre f).length + (pre g).length + 1 := by
        show (pre f ++ pre g).length + 1 = _
        rw [List.length_append]
      have hb := tl_len hw0.1
      have hb2 := tl_len hw0.2
      have h40 : (("(" : Str)) = mkS [40] := by decide +kernel
      have h41 : ((")" : Str)) = mkS [41] := by decide +kernel
      have d1 : ltD ⟨lsl (.bi b o f g) none, ce⟩ = some (.d (.str (mkS o.m)), ⟨lsl (.bi b o f g) none, ce ++ [.dic [.inr "and", .inr "or", .inr "if"] [.str " & ", .str " | ", .str " > "]]⟩) := by
        have e1 : dspM 3 [((retM (.d (.str "and"))), (retM (.d (.str " & ")))), ((retM (.d (.str "or"))), (retM (.d (.str " | ")))), ((retM (.d (.str "if"))), (retM (.d (.str " > "))))] ⟨lsl (.bi b o f g) none, ce⟩ = some (.c ce.length, ⟨lsl (.bi b o f g) none, ce ++ [.dic [.inr "and", .inr "or", .inr "if"] [.str " & ", .str " | ", .str " > "]]⟩) := by
          have m1 : mrgN [] [.inr "and", .inr "or", .inr "if"] = [.inr "and", .inr "or", .inr "if"] := by rfl
          have m2 : mrgD [] [] [.inr "and", .inr "or", .inr "if"] [.str " & ", .str " | ", .str " > "] = [.str " & ", .str " | ", .str " > "] := by rfl
          rw [zv_dsp (ks := [.inr "and", .inr "or", .inr "if"]) (ds := [.str " & ", .str " | ", .str " > "]) (xs := [(.d (.str "and"), .d (.str " & ")), (.d (.str "or"), .d (.str " | ")), (.d (.str "if"), .d (.str " > "))]) (E1 := ⟨lsl (.bi b o f g) none, ce ++ [.dic [] []]⟩) rfl rfl rfl, m1, m2]
        refine zv_dg (k := .inr o.s) e1 (zv_var rfl) (seeK_new _ _ _) rfl ?_
        cases o with
        | and => rw [show mkS Bi.and.m = " & " by decide +kernel]; rfl
        | or => rw [show mkS Bi.or.m = " | " by decide +kernel]; rfl
        | iff => rw [show mkS Bi.iff.m = " > " by decide +kernel]; rfl
      generalize hX : ce ++ [Ce.dic [.inr "and", .inr "or", .inr "if"] [.str " & ", .str " | ", .str " > "]] = X at d1
      have ih1 := lt_ok n f hw0.1 (by omega) (by omega) X
      have ih2 := lt_ok n g hw0.2 (by omega) (by omega) X
      have a1 : callM (LT n) (consM (fzV (Hk.bindM (vM 0) fun x => Hk.bindM (retM (.d (.int 1))) (ixF x))) (retM [])) ⟨lsl (.bi b o f g) (some (.d (.str (mkS o.m)))), X⟩ = some (.d (.str (mkS (tl f))), ⟨lsl (.bi b o f g) (some (.d (.str (mkS o.m)))), X⟩) := zv_call (G := LT n) (zv_cons (zv_fzV (sub (d := dt f) rfl) zv_fzD) zv_ret) ih1
      have a2 : callM (LT n) (consM (fzV (Hk.bindM (vM 0) fun x => Hk.bindM (retM (.d (.int 2))) (ixF x))) (retM [])) ⟨lsl (.bi b o f g) (some (.d (.str (mkS o.m)))), X⟩ = some (.d (.str (mkS (tl g))), ⟨lsl (.bi b o f g) (some (.d (.str (mkS o.m)))), X⟩) := zv_call (G := LT n) (zv_cons (zv_fzV (sub (d := dt g) rfl) zv_fzD) zv_ret) ih2
      have ht : txD (.bi b o f g) = .str (mkS ([40] ++ tl f ++ o.m ++ tl g ++ [41])) := by
        show Dt.str (mkS (40 :: (tl f ++ o.m ++ tl g ++ [41]))) = _
        simp
      have lm : o.m.length = 3 := rfl
      have a3 : ltB (LT n) ⟨lsl (.bi b o f g) (some (.d (.str (mkS o.m)))), X⟩ = some (.d (txD (.bi b o f g)), ⟨lsl (.bi b o f g) (some (.d (.str (mkS o.m)))), X⟩) := by
        rw [ht]
        unfold ltB
        rw [h40, h41]
        have c1 : (Hk.bindM (retM (.d (.str (mkS [40])))) fun x => Hk.bindM (callM (LT n) (consM (fzV (Hk.bindM (vM 0) fun x => Hk.bindM (retM (.d (.int 1))) (ixF x))) (retM []))) (addF x)) ⟨lsl (.bi b o f g) (some (.d (.str (mkS o.m)))), X⟩ = some (.d (.str (mkS ([40] ++ tl f))), ⟨lsl (.bi b o f g) (some (.d (.str (mkS o.m)))), X⟩) :=
          zv_bind zv_ret (zv_bind a1 (zv_addSS zv_seeD zv_seeD (by simp only [List.length_cons, List.length_nil]; omega)))
        exact zv_bind (zv_bind (zv_bind c1 (zv_bind (zv_var rfl) (zv_addSS zv_seeD zv_seeD (by simp only [List.length_append, List.length_cons, List.length_nil]; omega)))) (zv_bind a2 (zv_addSS zv_seeD zv_seeD (by simp only [List.length_append, List.length_cons, List.length_nil]; omega)))) (zv_bind zv_ret (zv_addSS zv_seeD zv_seeD (by simp only [List.length_append, List.length_cons, List.length_nil]; omega)))
      have s2 : setS 2 ltD ⟨lsl (.bi b o f g) none, ce⟩ = some (.nx ⟨lsl (.bi b o f g) (some (.d (.str (mkS o.m)))), X⟩) := zk_set d1
      refine key (D := [.dic [.inr "and", .inr "or", .inr "if"] [.str " & ", .str " | ", .str " > "]]) (j := some (.d (.str (mkS o.m)))) ?_
      rw [hX]
      exact zk_seq e0 (zk_nx (zk_seq (zk_ifF (tst (eL rfl)) rfl zk_nil) (zk_nx (zk_seq (zk_ifF (tst (eA rfl)) rfl zk_nil) (zk_nx (zk_seq (zk_ifF (t2 (k := false) (by cases o <;> rfl)) rfl zk_nil) (zk_nx (zk_seq (zk_ifT (t3 (k := true) (by cases o <;> rfl)) rfl (zk_seq s2 (zk_nx (zk_ret a3)))) zk_rt))))))))
/-! ### drawing -/
def StOk (n : Nat) (xs : List Dt) : Prop := ∃ a b c : Int, xs = [.int a, .int b, .int c] ∧ 0 ≤ a ∧ 0 ≤ b ∧ b ≤ 2 ^ 32 ∧ 0 ≤ c ∧ c ≤ n
theorem stream_ok (ns : List Int) (k : Nat) (ce : List Ce) (hk : k ≤ 100) : ∃ xs, f__law_stream [.d (.sq (ns.map .int)), .d (.int k)] ce = some (.c ce.length, ce ++ [.lst xs]) ∧ StOk 0 xs := by
  unfold f__law_stream
  by_cases h : k < ns.length
  · have ha : atI (ns.map Dt.int) (k : Int) = some (.int ns[k]) := atI_nat (by rw [List.getElem?_map, List.getElem?_eq_getElem h]; rfl)
    have hi : ixD (.sq (ns.map Dt.int)) (.int (k : Int)) = some (.int ns[k]) := ha
    generalize ns[k] = v at hi
    have hm := Int.fmod_nonneg_of_pos (if v < 0 then -v else v) (b := 2147483647) (by omega)
    have hm2 := Int.fmod_lt_of_pos (if v < 0 then -v else v) (b := 2147483647) (by omega)
    by_cases h2 : 10 ^ 18 ≤ (if v < 0 then -v else v)
    · apply cut_ev (m__law_stream ⟨[some (.d (.sq (ns.map .int))), some (.d (.int k)), none], ce⟩)
      case h =>
        unfold m__law_stream
        walk_at "go"
      case k =>
        intro ev
        exact ⟨_, zf_rt ev (trim_new rfl), _, _, _, rfl, by omega, by omega, by omega, by omega, by omega⟩
    · apply cut_ev (m__law_stream ⟨[some (.d (.sq (ns.map .int))), some (.d (.int k)), none], ce⟩)
      case h =>
        unfold m__law_stream
        walk_at "go"
      case k =>
        intro ev
        exact ⟨_, zf_rt ev (trim_new rfl), _, _, _, rfl, by omega, by omega, by omega, by omega, by omega⟩
  · apply cut_ev (m__law_stream ⟨[some (.d (.sq (ns.map .int))), some (.d (.int k)), none], ce⟩)
    case h =>
      unfold m__law_stream
      walk_at "go"
    case k =>
      intro ev
      exact ⟨_, zf_rt ev (trim_new rfl), _, _, _, rfl, by decide, by simp; omega, by simp; omega, by decide, by decide⟩
theorem take_set {ce : List Ce} {k : Nat} {c : Ce} : (ce.set k c).take ce.length = ce.set k c := List.take_of_length_le (by rw [List.length_set]; exact Nat.le_refl _)
theorem draw_ok {n : Nat} {xs : List Dt} {m : Int} {k : Nat} {ce : List Ce} (hs : StOk n xs) (hc : ce[k]? = some (.lst xs)) (hm : 1 ≤ m) (hm2 : m ≤ 1000) (hn : n ≤ 1000000000) :
    ∃ (r : Int) (ys : List Dt), f__law_draw [.c k, .d (.int m)] ce = some (.d (.int r), ce.set k (.lst ys)) ∧ 0 ≤ r ∧ r < m ∧ StOk (n + 1) ys := by
  obtain ⟨a, b, c, rfl, ha, hb, hb2, hc0, hcn⟩ := hs
  have hm0 : m ≠ 0 := by omega
  have hd : CDivN a m := ⟨hm0, by omega⟩
  unfold f__law_draw
  by_cases h : 0 < a
  · apply cut_ev (m__law_draw ⟨[some (.c k), some (.d (.int m)), none, none], ce⟩)
    case h =>
      unfold m__law_draw
      walk_at "go"
    case k =>
      intro ev
      have h1 := Int.fmod_nonneg_of_pos a (b := m) (by omega)
      have h2 := Int.fmod_lt_of_pos a (b := m) (by omega)
      have h3 : 0 ≤ a.fdiv m := Int.fdiv_nonneg ha (by omega)
      exact ⟨_, _, zf_rt ev (trim_d take_set), h1, h2, _, _, _, rfl, h3, hb, hb2, hc0, by omega⟩
  · have ha0 : a = 0 := by omega
    subst ha0
    have hp : (b + 7919 * (c + 1) + 104729).natAbs < 2 ^ 64 := by omega
    generalize hq : ((b + 7919 * (c + 1) + 104729) ^ (5 : Int).toNat).fmod 2147483647 = q
    have q1 : 0 ≤ q := by rw [← hq]; exact Int.fmod_nonneg_of_pos _ (by omega)
    have q2 : q < 2147483647 := by rw [← hq]; exact Int.fmod_lt_of_pos _ (by omega)
    have hpw : powF (.int (b + 7919 * (c + 1) + 104729)) (.int 5) = some (.int ((b + 7919 * (c + 1) + 104729) ^ (5 : Int).toNat)) := zw_pow ⟨by decide, by decide, hp⟩
    apply cut_ev (m__law_draw ⟨[some (.c k), some (.d (.int m)), none, none], ce⟩)
    case h =>
      unfold m__law_draw
      walk_at "go"
    case k =>
      intro ev
      have h1 := Int.fmod_nonneg_of_pos ((((((b + 7919 * (c + 1) + 104729) ^ (5 : Int).toNat).fmod 2147483647 + (c + 1)) * 40692).fmod 2147483629).fdiv 7) (b := m) (by omega)
      have h2 := Int.fmod_lt_of_pos ((((((b + 7919 * (c + 1) + 104729) ^ (5 : Int).toNat).fmod 2147483647 + (c + 1)) * 40692).fmod 2147483629).fdiv 7) (b := m) (by omega)
      exact ⟨_, _, zf_rt ev (trim_d take_set), h1, h2, _, _, _, rfl, by omega, hb, hb2, by omega, by omega⟩
theorem pick_ok {n : Nat} {xs as : List Dt} {k : Nat} {ce : List Ce} (hs : StOk n xs) (hc : ce[k]? = some (.lst xs)) (ha : 1 ≤ as.length) (ha2 : as.length ≤ 1000) (hn : n ≤ 1000000000) :
    ∃ (x : Dt) (ys : List Dt), f__law_pick f__law_draw [.c k, .d (.lst as)] ce = some (.d x, ce.set k (.lst ys)) ∧ x ∈ as ∧ StOk (n + 1) ys := by
  obtain ⟨r, ys, e, r0, r1, hy⟩ := draw_ok (m := (as.length : Int)) hs hc (by omega) (by omega) hn
  have hr : r.toNat < as.length := by omega
  have hx : as[r.toNat]? = some as[r.toNat] := List.getElem?_eq_getElem hr
  have hi : ixD (.lst as) (.int r) = some as[r.toNat] := by
    have h := atI_nat (xs := as) hx
    rw [Int.toNat_of_nonneg r0] at h
    exact h
  refine ⟨_, ys, ?_, List.getElem_mem hr, hy⟩
  refine zf_rt (nl := 0) (m := m__law_pick f__law_draw) (E := ⟨[some (.c k), some (.d (.lst as))], ce.set k (.lst ys)⟩) (r := .d as[r.toNat]) (zk_ret (zv_bind (zv_var rfl) (zv_bind (zv_call (zv_cons (zv_var rfl) (zv_cons (zv_fzV (zv_bind (zv_cons (zv_var rfl) zv_ret) (zv_fn1 zv_seeD zw_lenL)) zv_fzD) zv_ret)) e) (zv_ix zv_seeD zv_seeD hi)))) (trim_d take_set)
/-! ### the forms that the law draws: over three letters -/
def Lx (s : Str) : Prop := s = "p" ∨ s = "q" ∨ s = "word"
def Ax (s t : Str) : Prop := (s = "me" ∧ t = "him") ∨ (s = "him" ∧ t = "me") ∨ (s = "him" ∧ t = "abe")
def Wx : Fm → Prop
  | .letter _ s => Lx s
  | .act _ s t => Ax s t
  | .un _ _ f => Wx f
  | .bi _ _ f g => Wx f ∧ Wx g
  | _ => True
theorem small_of {s : Str} (h : decide (1 ≤ s.length ∧ s.length ≤ 8 ∧ ∀ c ∈ s.cps.toList, 97 ≤ c ∧ c ≤ 122) = true) : Small s := (of_decide_eq_true h : 1 ≤ s.length ∧ s.length ≤ 8 ∧ ∀ c ∈ s.cps.toList, 97 ≤ c ∧ c ≤ 122)
theorem Lx.small {s : Str} (h : Lx s) : Small s := by
  rcases h with rfl | rfl | rfl <;> exact small_of (by decide +kernel)
theorem Lx.name {s : Str} (h : Lx s) : NameOk s := by
  refine name_ok h.small ?_
  rcases h with rfl | rfl | rfl <;> rfl
theorem Lx.ok {s : Str} (h : Lx s) : PyData.strOk s = true := by
  rcases h with rfl | rfl | rfl <;> decide +kernel
theorem Ax.who {s t : Str} (h : Ax s t) : (WhoOk s ∧ WhoOk t) ∧ PyData.strOk s = true ∧ PyData.strOk t = true := by
  have m : WhoOk "me" := who_ok (small_of (by decide +kernel)) (.inl rfl)
  have i : WhoOk "him" := who_ok (small_of (by decide +kernel)) (.inl rfl)
  have a : WhoOk "abe" := who_ok (small_of (by decide +kernel)) (.inr ⟨rfl, rfl⟩)
  rcases h with ⟨rfl, rfl⟩ | ⟨rfl, rfl⟩ | ⟨rfl, rfl⟩
  · exact ⟨⟨m, i⟩, by decide +kernel, by decide +kernel⟩
  · exact ⟨⟨i, m⟩, by decide +kernel, by decide +kernel⟩
  · exact ⟨⟨i, a⟩, by decide +kernel, by decide +kernel⟩
theorem Ax.small {s t : Str} (h : Ax s t) : Small s ∧ Small t := by
  rcases h with ⟨rfl, rfl⟩ | ⟨rfl, rfl⟩ | ⟨rfl, rfl⟩ <;> exact ⟨small_of (by decide +kernel), small_of (by decide +kernel)⟩
theorem Wx.wf : ∀ {f : Fm}, Wx f → Wf f
  | .yes _, _ => True.intro
  | .no _, _ => True.intro
  | .letter _ _, h => ⟨Lx.name h, Lx.ok h⟩
  | .act _ _ _, h => Ax.who h
  | .un _ _ f, h => Wx.wf (f := f) h
  | .bi _ _ f g, h => ⟨Wx.wf h.1, Wx.wf h.2⟩
theorem Wx.ws : ∀ {f : Fm}, Wx f → Ws f
  | .yes _, _ => True.intro
  | .no _, _ => True.intro
  | .letter _ _, h => Lx.small h
  | .act _ _ _, h => Ax.small h
  | .un _ _ f, h => Wx.ws (f := f) h
  | .bi _ _ f g, h => ⟨Wx.ws h.1, Wx.ws h.2⟩
/-! ### drawn forms -/
def AtOk (as : List Dt) : Prop := 1 ≤ as.length ∧ as.length ≤ 500 ∧ ∀ x ∈ as, ∃ f, x = gd f ∧ Pl f ∧ Wx f ∧ (pre f).length = 1
theorem frz_c {k j : Nat} {d : Dt} (h : k ≠ j) : frzV j d (.c k) = .c k := by
  show (if k = j then _ else _) = _
  rw [if_neg h]
def lfM : M Vl := callM (f__law_pick f__law_draw) (consM (vM 0) (consM (fzV (ifM (Hk.bindM (Hk.bindM (callM f__law_draw (consM (vM 0) (consM (retM (.d (.int 4))) (retM [])))) fun x => Hk.bindM (retM (.d (.int 0))) (op2 eqF x)) boolM) (Hk.bindM (vM 1) fun x => Hk.bindM (lstM (consM (tupM (consM (retM (.d (.str "yes"))) (retM []))) (consM (tupM (consM (retM (.d (.str "no"))) (retM []))) (retM [])))) (addF x)) (vM 1))) (retM [])))
theorem leaf_ok {n k : Nat} {xs as : List Dt} {ce : List Ce} {r : Vl} (hs : StOk n xs) (hc : ce[k]? = some (.lst xs)) (ha : AtOk as) (hn : n ≤ 1000000) :
    ∃ (f : Fm) (ys : List Dt) (E : En), lfM ⟨[some (.c k), some (.d (.lst as)), some r, none, none], ce⟩ = some (.d (gd f), E) ∧ E.ce.take ce.length = ce.set k (.lst ys) ∧ StOk (n + 2) ys ∧ Pl f ∧ Wx f ∧ (pre f).length = 1 := by
  obtain ⟨a1, a2, a3⟩ := ha
  have hk : k < ce.length := (List.getElem?_eq_some_iff.mp hc).1
  obtain ⟨q, ys, e1, q0, q1, hy⟩ := draw_ok (m := 4) hs hc (by omega) (by omega) (by omega)
  have hc1 : (ce.set k (.lst ys))[k]? = some (.lst ys) := get_set hc
  have hl1 : (ce.set k (Ce.lst ys)).length = ce.length := List.length_set
  have d1 : callM f__law_draw (consM (vM 0) (consM (retM (.d (.int 4))) (retM []))) ⟨[some (.c k), some (.d (.lst as)), some r, none, none], ce⟩ = some (.d (.int q), ⟨[some (.c k), some (.d (.lst as)), some r, none, none], ce.set k (.lst ys)⟩) := zv_call (zv_cons (zv_var rfl) (zv_cons zv_ret zv_ret)) e1
  have t1 : (Hk.bindM (Hk.bindM (callM f__law_draw (consM (vM 0) (consM (retM (.d (.int 4))) (retM [])))) fun x => Hk.bindM (retM (.d (.int 0))) (op2 eqF x)) boolM) ⟨[some (.c k), some (.d (.lst as)), some r, none, none], ce⟩ = some (q == 0, ⟨[some (.c k), some (.d (.lst as)), some r, none, none], ce.set k (.lst ys)⟩) := zv_bind (zv_bind d1 (zv_bind zv_ret (zv_op2 zv_seeD zv_seeD (zw_eq zq_int)))) zv_bool
  by_cases hq : q = 0
  · subst hq
    have b1 : lstM (consM (tupM (consM (retM (.d (.str "yes"))) (retM []))) (consM (tupM (consM (retM (.d (.str "no"))) (retM []))) (retM []))) ⟨[some (.c k), some (.d (.lst as)), some r, none, none], ce.set k (.lst ys)⟩ = some (.c (ce.set k (Ce.lst ys)).length, ⟨[some (.c k), some (.d (.lst as)), some r, none, none], ce.set k (.lst ys) ++ [Ce.lst [.tup [.str "yes"], .tup [.str "no"]]]⟩) :=
      zv_lst (zv_cons (zv_tup (zv_cons zv_ret zv_ret) (by show 1 ≤ 100000; decide) (zv_fzA1 zv_fzD zv_fzA0)) (zv_cons (zv_tup (zv_cons zv_ret zv_ret) (by show 1 ≤ 100000; decide) (zv_fzA1 zv_fzD zv_fzA0)) zv_ret)) (by show 2 ≤ 100000; decide) (zv_fzA1 zv_fzD (zv_fzA1 zv_fzD zv_fzA0)) zv_newL
    have b2 : (Hk.bindM (vM 1) fun x => Hk.bindM (lstM (consM (tupM (consM (retM (.d (.str "yes"))) (retM []))) (consM (tupM (consM (retM (.d (.str "no"))) (retM []))) (retM [])))) (addF x)) ⟨[some (.c k), some (.d (.lst as)), some r, none, none], ce.set k (.lst ys)⟩ = some (.c (ce.set k (Ce.lst ys) ++ [Ce.lst [.tup [.str "yes"], .tup [.str "no"]]]).length, ⟨[some (.c k), some (.d (.lst as)), some r, none, none], ce.set k (.lst ys) ++ [Ce.lst [.tup [.str "yes"], .tup [.str "no"]]] ++ [Ce.lst (as ++ [.tup [.str "yes"], .tup [.str "no"]])]⟩) :=
      zv_bind (zv_var rfl) (zv_bind b1 (zv_addL zv_seeD (zv_seeC (get_new _ _)) (by show as.length + 2 ≤ 100000; omega) zv_newL))
    have b3 := zv_fzC (sl := [some (.c k), some (.d (.lst as)), some r, none, none]) (get_new (ce.set k (Ce.lst ys) ++ [Ce.lst [.tup [.str "yes"], .tup [.str "no"]]]) (Ce.lst (as ++ [.tup [.str "yes"], .tup [.str "no"]])))
    rw [set_new] at b3
    have hc2 : (ce.set k (Ce.lst ys) ++ [Ce.lst [.tup [.str "yes"], .tup [.str "no"]]] ++ [Ce.dead])[k]? = some (.lst ys) := by
      rw [List.append_assoc, List.getElem?_append_left (by omega)]
      exact hc1
    obtain ⟨x, zs, e2, hx, hz⟩ := pick_ok (as := as ++ [.tup [.str "yes"], .tup [.str "no"]]) hy hc2 (by simp) (by simp; omega) (by omega)
    have hf : ∃ f, x = gd f ∧ Pl f ∧ Wx f ∧ (pre f).length = 1 := by
      rcases List.mem_append.mp hx with hx | hx
      · exact a3 x hx
      · have hx : x = .tup [.str "yes"] ∨ x = .tup [.str "no"] := by simpa using hx
        rcases hx with rfl | rfl
        · exact ⟨.yes false, rfl, rfl, True.intro, rfl⟩
        · exact ⟨.no false, rfl, rfl, True.intro, rfl⟩
    obtain ⟨f, rfl, f1, f2, f3⟩ := hf
    refine ⟨f, zs, _, zv_call (zv_cons (zv_var rfl) (zv_cons (zv_fzV (zv_ifT t1 rfl b2) b3) zv_ret)) e2, ?_, hz, f1, f2, f3⟩
    show ((ce.set k (Ce.lst ys) ++ [Ce.lst [.tup [.str "yes"], .tup [.str "no"]]] ++ [Ce.dead]).set k (.lst zs)).take ce.length = _
    rw [List.append_assoc, List.set_append_left _ _ (by omega), List.set_set, List.take_left' (by rw [List.length_set])]
  · obtain ⟨x, zs, e2, hx, hz⟩ := pick_ok (as := as) hy hc1 a1 (by omega) (by omega)
    obtain ⟨f, rfl, f1, f2, f3⟩ := a3 x hx
    refine ⟨f, zs, _, zv_call (zv_cons (zv_var rfl) (zv_cons (zv_fzV (zv_ifF t1 (by rw [beq_eq_false_iff_ne]; exact hq) (zv_var rfl)) zv_fzD) zv_ret)) e2, ?_, hz, f1, f2, f3⟩
    show ((ce.set k (Ce.lst ys)).set k (.lst zs)).take ce.length = _
    rw [List.set_set, take_set]
abbrev FREE : Nat → Fn := f__law_free f__law_draw (f__law_pick f__law_draw)
theorem StOk.mono {n m : Nat} {xs : List Dt} (h : StOk n xs) (hm : n ≤ m) : StOk m xs := by
  obtain ⟨a, b, c, e, h1, h2, h3, h4, h5⟩ := h
  exact ⟨a, b, c, e, h1, h2, h3, h4, by omega⟩
def frT1 : M Bool := Hk.orM (Hk.bindM (Hk.bindM (vM 2) fun x => Hk.bindM (retM (.d (.int 2))) (op2 ltF x)) boolM) (Hk.bindM (Hk.bindM (callM f__law_draw (consM (vM 0) (consM (retM (.d (.int 8))) (retM [])))) fun x => Hk.bindM (retM (.d (.int 0))) (op2 eqF x)) boolM)
def frT3 : M Bool := Hk.bindM (Hk.bindM (vM 3) fun x => Hk.bindM (tupM (consM (retM (.d (.str "box"))) (consM (retM (.d (.str "not"))) (retM [])))) (op2 (inF false) x)) boolM
def frT4 : M Bool := Hk.bindM (Hk.bindM (vM 2) fun x => Hk.bindM (retM (.d (.int 3))) (op2 ltF x)) boolM
def frK : M (List Vl) := consM (retM (.d (.str "box"))) (consM (retM (.d (.str "box"))) (consM (retM (.d (.str "not"))) (consM (retM (.d (.str "and"))) (consM (retM (.d (.str "or"))) (consM (retM (.d (.str "if"))) (retM []))))))
def frU (F : Fn) : En → Option Rs := seqS (setS 3 (ifM frT3 (vM 3) (retM (.d (.str "box")))))
    (retS (tupM (consM (vM 3) (consM (callM F (consM (vM 0) (consM (fzV (vM 1)) (consM (fzV (Hk.bindM (vM 2) fun x => Hk.bindM (retM (.d (.int 1))) (op2 subF x))) (retM []))))) (retM [])))))
def frB (F : Fn) : En → Option Rs := seqS (setS 4 (Hk.bindM (retM (.d (.int 1))) fun x => Hk.bindM (callM f__law_draw (consM (vM 0) (consM (fzV (Hk.bindM (vM 2) fun x => Hk.bindM (retM (.d (.int 2))) (op2 subF x))) (retM [])))) (addF x)))
    (retS (tupM (consM (vM 3) (consM (callM F (consM (vM 0) (consM (fzV (vM 1)) (consM (fzV (vM 4)) (retM []))))) (consM (callM F (consM (vM 0) (consM (fzV (vM 1)) (consM (fzV (Hk.bindM (Hk.bindM (vM 2) fun x => Hk.bindM (retM (.d (.int 1))) (op2 subF x)) fun x => Hk.bindM (vM 4) (op2 subF x))) (retM []))))) (retM []))))))
theorem free_is (F : Fn) : m__law_free f__law_draw (f__law_pick f__law_draw) F = seqS (ifS frT1 (retS lfM) nilS)
    (seqS (setS 3 (callM (f__law_pick f__law_draw) (consM (vM 0) (consM (fzV (lstM frK)) (retM [])))))
    (seqS (ifS (Hk.orM frT3 frT4) (frU F) nilS) (frB F))) := rfl
theorem in_box {w : Str} {b : Bool} {r0 r1 r2 r4 : Option Vl} {ce : List Ce} (h : inF false (.str w) (.tup [.str "box", .str "not"]) = some (.bl b)) : frT3 ⟨[r0, r1, r2, some (.d (.str w)), r4], ce⟩ = some (b, ⟨[r0, r1, r2, some (.d (.str w)), r4], ce⟩) :=
  zv_bind (zv_bind (zv_var rfl) (zv_bind (zv_tup (zv_cons zv_ret (zv_cons zv_ret zv_ret)) (by show 2 ≤ 100000; decide) (zv_fzA1 zv_fzD (zv_fzA1 zv_fzD zv_fzA0))) (zv_op2 zv_seeD zv_seeD h))) zv_bool
theorem sub_at {i j : Int} {sl : List (Option Vl)} {ce : List Ce} {p : Nat} (h : sl[p]? = some (some (.d (.int i)))) : (Hk.bindM (vM p) fun x => Hk.bindM (retM (.d (.int j))) (op2 subF x)) ⟨sl, ce⟩ = some (.d (.int (i - j)), ⟨sl, ce⟩) :=
  zv_bind (zv_var h) (zv_bind zv_ret (zv_op2 zv_seeD zv_seeD rfl))
def FrOk (F : Fn) (s : Nat) : Prop := ∀ (n k : Nat) (xs as : List Dt) (ce : List Ce), StOk n xs → ce[k]? = some (.lst xs) → AtOk as → n + 4 * s ≤ 1000000 →
  ∃ (f : Fm) (ys : List Dt), F [.c k, .d (.lst as), .d (.int (s : Int))] ce = some (.d (gd f), ce.set k (.lst ys)) ∧ StOk (n + 4 * s) ys ∧ Pl f ∧ Wx f ∧ (pre f).length ≤ s
theorem free_un {F : Fn} {s n k : Nat} {xs as : List Dt} {ce : List Ce} {w : Str} {b : Bool} (hF : FrOk F (s - 1)) (hs1 : 2 ≤ s) (hs : StOk n xs) (hc : ce[k]? = some (.lst xs)) (ha : AtOk as) (hn : n + 4 * (s - 1) ≤ 1000000) (hb : inF false (.str w) (.tup [.str "box", .str "not"]) = some (.bl b)) (hw : b = true → w = "box" ∨ w = "not") :
    ∃ (f : Fm) (ys : List Dt) (sl : List (Option Vl)), frU F ⟨[some (.c k), some (.d (.lst as)), some (.d (.int (s : Int))), some (.d (.str w)), none], ce⟩ = some (.rt (.d (gd f)) ⟨sl, ce.set k (.lst ys)⟩) ∧ StOk (n + 4 * (s - 1)) ys ∧ Pl f ∧ Wx f ∧ (pre f).length ≤ s := by
  obtain ⟨f, ys, e1, h1, h2, h3, h4⟩ := hF _ _ _ _ _ hs hc ha hn
  have es : ((s : Int) - 1) = ((s - 1 : Nat) : Int) := by omega
  have hu : ∃ u : Un, ifM frT3 (vM 3) (retM (.d (.str "box"))) ⟨[some (.c k), some (.d (.lst as)), some (.d (.int (s : Int))), some (.d (.str w)), none], ce⟩ = some (.d (.str u.s), ⟨[some (.c k), some (.d (.lst as)), some (.d (.int (s : Int))), some (.d (.str w)), none], ce⟩) := by
    cases b with
    | true =>
      rcases hw rfl with rfl | rfl
      · exact ⟨.box, zv_ifT (in_box hb) rfl (zv_var rfl)⟩
      · exact ⟨.not, zv_ifT (in_box hb) rfl (zv_var rfl)⟩
    | false => exact ⟨.box, zv_ifF (in_box hb) rfl zv_ret⟩
  obtain ⟨u, e0⟩ := hu
  have e2 : callM F (consM (vM 0) (consM (fzV (vM 1)) (consM (fzV (Hk.bindM (vM 2) fun x => Hk.bindM (retM (.d (.int 1))) (op2 subF x))) (retM [])))) ⟨[some (.c k), some (.d (.lst as)), some (.d (.int (s : Int))), some (.d (.str u.s)), none], ce⟩ = some (.d (gd f), ⟨[some (.c k), some (.d (.lst as)), some (.d (.int (s : Int))), some (.d (.str u.s)), none], ce.set k (.lst ys)⟩) :=
    zv_call (zv_cons (zv_var rfl) (zv_cons (zv_fzV (zv_var rfl) zv_fzD) (zv_cons (zv_fzV (sub_at rfl) zv_fzD) zv_ret))) (by rw [es]; exact e1)
  exact ⟨.un false u f, ys, _, zk_seq (zk_set e0) (zk_nx (zk_ret (zv_tup (zv_cons (zv_var rfl) (zv_cons e2 zv_ret)) (by show 2 ≤ 100000; decide) (zv_fzA1 zv_fzD (zv_fzA1 zv_fzD zv_fzA0))))), h1, ⟨rfl, h2⟩, h3, by show (pre f).length + 1 ≤ s; omega⟩
theorem free_bi {F : Fn} {s n k : Nat} {xs as : List Dt} {ce : List Ce} {o : Bi} (hF : ∀ t, 1 ≤ t → t < s → FrOk F t) (hs1 : 3 ≤ s) (hs2 : s ≤ 100) (hs : StOk n xs) (hc : ce[k]? = some (.lst xs)) (ha : AtOk as) (hn : n + 4 * (s - 1) + 1 ≤ 1000000) :
    ∃ (f : Fm) (ys : List Dt) (sl : List (Option Vl)), frB F ⟨[some (.c k), some (.d (.lst as)), some (.d (.int (s : Int))), some (.d (.str o.s)), none], ce⟩ = some (.rt (.d (gd f)) ⟨sl, ce.set k (.lst ys)⟩) ∧ StOk (n + 4 * (s - 1) + 1) ys ∧ Pl f ∧ Wx f ∧ (pre f).length ≤ s := by
  obtain ⟨q, ys, e1, q0, q1, hy⟩ := draw_ok (m := (s : Int) - 2) hs hc (by omega) (by omega) (by omega)
  have hc1 : (ce.set k (.lst ys))[k]? = some (.lst ys) := get_set hc
  have d1 : (Hk.bindM (retM (.d (.int 1))) fun x => Hk.bindM (callM f__law_draw (consM (vM 0) (consM (fzV (Hk.bindM (vM 2) fun x => Hk.bindM (retM (.d (.int 2))) (op2 subF x))) (retM [])))) (addF x)) ⟨[some (.c k), some (.d (.lst as)), some (.d (.int (s : Int))), some (.d (.str o.s)), none], ce⟩ = some (.d (.int (1 + q)), ⟨[some (.c k), some (.d (.lst as)), some (.d (.int (s : Int))), some (.d (.str o.s)), none], ce.set k (.lst ys)⟩) :=
    zv_bind zv_ret (zv_bind (zv_call (zv_cons (zv_var rfl) (zv_cons (zv_fzV (sub_at rfl) zv_fzD) zv_ret)) e1) (zv_addI zv_seeD zv_seeD))
  generalize ht : (1 + q).toNat = t
  have et : 1 + q = (t : Int) := by omega
  have t1 : 1 ≤ t := by omega
  have t2 : t ≤ s - 2 := by omega
  rw [et] at d1
  obtain ⟨f, zs, e2, hz, p1, w1, l1⟩ := hF t t1 (by omega) _ _ _ _ _ hy hc1 ha (by omega)
  rw [List.set_set] at e2
  have hc2 : (ce.set k (.lst zs))[k]? = some (.lst zs) := get_set hc
  have eu : ((s : Int) - 1 - (t : Int)) = ((s - 1 - t : Nat) : Int) := by omega
  obtain ⟨g, us, e3, hu, p2, w2, l2⟩ := hF (s - 1 - t) (by omega) (by omega) _ _ _ _ _ hz hc2 ha (by omega)
  rw [List.set_set] at e3
  have c1 : callM F (consM (vM 0) (consM (fzV (vM 1)) (consM (fzV (vM 4)) (retM [])))) ⟨[some (.c k), some (.d (.lst as)), some (.d (.int (s : Int))), some (.d (.str o.s)), some (.d (.int (t : Int)))], ce.set k (.lst ys)⟩ = some (.d (gd f), ⟨[some (.c k), some (.d (.lst as)), some (.d (.int (s : Int))), some (.d (.str o.s)), some (.d (.int (t : Int)))], ce.set k (.lst zs)⟩) :=
    zv_call (zv_cons (zv_var rfl) (zv_cons (zv_fzV (zv_var rfl) zv_fzD) (zv_cons (zv_fzV (zv_var rfl) zv_fzD) zv_ret))) e2
  have c2 : callM F (consM (vM 0) (consM (fzV (vM 1)) (consM (fzV (Hk.bindM (Hk.bindM (vM 2) fun x => Hk.bindM (retM (.d (.int 1))) (op2 subF x)) fun x => Hk.bindM (vM 4) (op2 subF x))) (retM [])))) ⟨[some (.c k), some (.d (.lst as)), some (.d (.int (s : Int))), some (.d (.str o.s)), some (.d (.int (t : Int)))], ce.set k (.lst zs)⟩ = some (.d (gd g), ⟨[some (.c k), some (.d (.lst as)), some (.d (.int (s : Int))), some (.d (.str o.s)), some (.d (.int (t : Int)))], ce.set k (.lst us)⟩) :=
    zv_call (zv_cons (zv_var rfl) (zv_cons (zv_fzV (zv_var rfl) zv_fzD) (zv_cons (zv_fzV (d := .int ((s : Int) - 1 - (t : Int))) (zv_bind (sub_at rfl) (zv_bind (zv_var rfl) (zv_op2 zv_seeD zv_seeD rfl))) zv_fzD) zv_ret))) (by rw [eu]; exact e3)
  exact ⟨.bi false o f g, us, _, zk_seq (zk_set d1) (zk_nx (zk_ret (zv_tup (zv_cons (zv_var rfl) (zv_cons c1 (zv_cons c2 zv_ret))) (by show 3 ≤ 100000; decide) (zv_fzA1 zv_fzD (zv_fzA1 zv_fzD (zv_fzA1 zv_fzD zv_fzA0)))))), hu.mono (by omega), ⟨rfl, p1, p2⟩, ⟨w1, w2⟩, by show (pre f ++ pre g).length + 1 ≤ s; rw [List.length_append]; omega⟩
theorem free_ok : ∀ (fuel s : Nat), 1 ≤ s → s ≤ fuel → s ≤ 50 → FrOk (FREE fuel) s
  | 0, s, h1, h2, _ => by omega
  | fuel + 1, s, h1, h2, h3 => by
    intro n k xs as ce hs hc ha hn
    have ih : ∀ t, 1 ≤ t → t < s → FrOk (FREE fuel) t := fun t ht hts => free_ok fuel t ht (by omega) (by omega)
    have hk : k < ce.length := (List.getElem?_eq_some_iff.mp hc).1
    have key : ∀ {R : Vl} {sl : List (Option Vl)} {c2 c3 : List Ce}, m__law_free f__law_draw (f__law_pick f__law_draw) (FREE fuel) ⟨[some (.c k), some (.d (.lst as)), some (.d (.int (s : Int))), none, none], ce⟩ = some (.rt R ⟨sl, c2⟩) → trimC ce.length R c2 = some (R, c3) → FREE (fuel + 1) [.c k, .d (.lst as), .d (.int (s : Int))] ce = some (R, c3) := fun e g => zf_rt e g
    have key2 : ∀ {R : Vl} {E : En} {c3 : List Ce}, m__law_free f__law_draw (f__law_pick f__law_draw) (FREE fuel) ⟨[some (.c k), some (.d (.lst as)), some (.d (.int (s : Int))), none, none], ce⟩ = some (.rt R E) → trimC ce.length R E.ce = some (R, c3) → FREE (fuel + 1) [.c k, .d (.lst as), .d (.int (s : Int))] ce = some (R, c3) := fun e g => zf_rt e g
    rw [free_is] at key key2
    by_cases hs1 : s = 1
    · subst hs1
      obtain ⟨f, ys, E, e1, e2, hy, p, w, l⟩ := leaf_ok (r := .d (.int ((1 : Nat) : Int))) hs hc ha (by omega)
      have t : frT1 ⟨[some (.c k), some (.d (.lst as)), some (.d (.int ((1 : Nat) : Int))), none, none], ce⟩ = some (true, ⟨[some (.c k), some (.d (.lst as)), some (.d (.int ((1 : Nat) : Int))), none, none], ce⟩) :=
        zv_orT (zv_bind (zv_bind (zv_var rfl) (zv_bind zv_ret (zv_op2 zv_seeD zv_seeD (d := .bl true) rfl))) zv_bool) rfl
      exact ⟨f, ys, key2 (zk_seq (zk_ifT t rfl (zk_ret e1)) zk_rt) (trim_d e2), hy.mono (by omega), p, w, by omega⟩
    · obtain ⟨q, ys, e1, q0, q1, hy⟩ := draw_ok (m := 8) hs hc (by omega) (by omega) (by omega)
      have hc1 : (ce.set k (.lst ys))[k]? = some (.lst ys) := get_set hc
      have hlt : ltF (.int (s : Int)) (.int 2) = some (.bl false) := by
        show some (Dt.bl (decide ((s : Int) < 2))) = _
        rw [decide_eq_false (by omega)]
      have ta : (Hk.bindM (Hk.bindM (vM 2) fun x => Hk.bindM (retM (.d (.int 2))) (op2 ltF x)) boolM) ⟨[some (.c k), some (.d (.lst as)), some (.d (.int (s : Int))), none, none], ce⟩ = some (false, ⟨[some (.c k), some (.d (.lst as)), some (.d (.int (s : Int))), none, none], ce⟩) := zv_bind (zv_bind (zv_var rfl) (zv_bind zv_ret (zv_op2 zv_seeD zv_seeD hlt))) zv_bool
      have tb : (Hk.bindM (Hk.bindM (callM f__law_draw (consM (vM 0) (consM (retM (.d (.int 8))) (retM [])))) fun x => Hk.bindM (retM (.d (.int 0))) (op2 eqF x)) boolM) ⟨[some (.c k), some (.d (.lst as)), some (.d (.int (s : Int))), none, none], ce⟩ = some (q == 0, ⟨[some (.c k), some (.d (.lst as)), some (.d (.int (s : Int))), none, none], ce.set k (.lst ys)⟩) := zv_bind (zv_bind (zv_call (zv_cons (zv_var rfl) (zv_cons zv_ret zv_ret)) e1) (zv_bind zv_ret (zv_op2 zv_seeD zv_seeD (zw_eq zq_int)))) zv_bool
      have t : frT1 ⟨[some (.c k), some (.d (.lst as)), some (.d (.int (s : Int))), none, none], ce⟩ = some (q == 0, ⟨[some (.c k), some (.d (.lst as)), some (.d (.int (s : Int))), none, none], ce.set k (.lst ys)⟩) :=
        zv_orF ta rfl tb
      by_cases hq : q = 0
      · obtain ⟨f, zs, E, e2, e3, hz, p, w, l⟩ := leaf_ok (r := .d (.int (s : Int))) hy hc1 ha (by omega)
        rw [List.length_set, List.set_set] at e3
        exact ⟨f, zs, key2 (zk_seq (zk_ifT t (by rw [hq]; rfl) (zk_ret e2)) zk_rt) (trim_d e3), hz.mono (by omega), p, w, by omega⟩
      · have hl1 : (ce.set k (Ce.lst ys)).length = ce.length := List.length_set
        have b1 : lstM frK ⟨[some (.c k), some (.d (.lst as)), some (.d (.int (s : Int))), none, none], ce.set k (.lst ys)⟩ = some (.c (ce.set k (Ce.lst ys)).length, ⟨[some (.c k), some (.d (.lst as)), some (.d (.int (s : Int))), none, none], ce.set k (.lst ys) ++ [Ce.lst [.str "box", .str "box", .str "not", .str "and", .str "or", .str "if"]]⟩) :=
          zv_lst (zv_cons zv_ret (zv_cons zv_ret (zv_cons zv_ret (zv_cons zv_ret (zv_cons zv_ret (zv_cons zv_ret zv_ret)))))) (by show 6 ≤ 100000; decide) (zv_fzA1 zv_fzD (zv_fzA1 zv_fzD (zv_fzA1 zv_fzD (zv_fzA1 zv_fzD (zv_fzA1 zv_fzD (zv_fzA1 zv_fzD zv_fzA0)))))) zv_newL
        have b3 := zv_fzC (sl := [some (.c k), some (.d (.lst as)), some (.d (.int (s : Int))), none, none]) (get_new (ce.set k (Ce.lst ys)) (Ce.lst [.str "box", .str "box", .str "not", .str "and", .str "or", .str "if"]))
        have hsl : ([some (Vl.c k), some (.d (.lst as)), some (.d (.int (s : Int))), none, none] : List (Option Vl)).map (Option.map (frzV (ce.set k (Ce.lst ys)).length (.lst [.str "box", .str "box", .str "not", .str "and", .str "or", .str "if"]))) = [some (Vl.c k), some (.d (.lst as)), some (.d (.int (s : Int))), none, none] := by
          show [some (frzV (ce.set k (Ce.lst ys)).length (.lst [.str "box", .str "box", .str "not", .str "and", .str "or", .str "if"]) (.c k)), _, _, _, _] = _
          rw [frz_c (by omega)]
          rfl
        rw [set_new, hsl] at b3
        have hc2 : (ce.set k (Ce.lst ys) ++ [Ce.dead])[k]? = some (.lst ys) := by
          rw [List.getElem?_append_left (by omega)]
          exact hc1
        obtain ⟨x, zs, e2, hx, hz⟩ := pick_ok (as := [.str "box", .str "box", .str "not", .str "and", .str "or", .str "if"]) hy hc2 (by show 1 ≤ 6; decide) (by show 6 ≤ 1000; decide) (by omega)
        have eset : (ce.set k (Ce.lst ys) ++ [Ce.dead]).set k (.lst zs) = ce.set k (.lst zs) ++ [Ce.dead] := by
          rw [List.set_append_left _ _ (by omega), List.set_set]
        rw [eset] at e2
        have s3 : setS 3 (callM (f__law_pick f__law_draw) (consM (vM 0) (consM (fzV (lstM frK)) (retM [])))) ⟨[some (.c k), some (.d (.lst as)), some (.d (.int (s : Int))), none, none], ce.set k (.lst ys)⟩ = some (.nx ⟨[some (.c k), some (.d (.lst as)), some (.d (.int (s : Int))), some (.d x), none], ce.set k (.lst zs) ++ [Ce.dead]⟩) :=
          zk_set (zv_call (zv_cons (zv_var rfl) (zv_cons (zv_fzV b1 b3) zv_ret)) e2)
        have hc3 : (ce.set k (Ce.lst zs) ++ [Ce.dead])[k]? = some (.lst zs) := by
          rw [List.getElem?_append_left (by rw [List.length_set]; exact hk)]
          exact get_set hc
        have tk : ∀ us : List Dt, ((ce.set k (Ce.lst zs) ++ [Ce.dead]).set k (.lst us)).take ce.length = ce.set k (.lst us) := fun us => by
          rw [List.set_append_left _ _ (by rw [List.length_set]; exact hk), List.set_set, List.take_left' (by rw [List.length_set])]
        have hq2 : (q == 0) = false := by
          rw [beq_eq_false_iff_ne]
          exact hq
        have first : ifS frT1 (retS lfM) nilS ⟨[some (.c k), some (.d (.lst as)), some (.d (.int (s : Int))), none, none], ce⟩ = some (.nx ⟨[some (.c k), some (.d (.lst as)), some (.d (.int (s : Int))), none, none], ce.set k (.lst ys)⟩) := zk_ifF t hq2 zk_nil
        have goUn : ∀ {w : Str} {b : Bool}, x = .str w → inF false (.str w) (.tup [.str "box", .str "not"]) = some (.bl b) → (b = true → w = "box" ∨ w = "not") → (b = true ∨ s < 3) → ∃ (f : Fm) (us : List Dt), FREE (fuel + 1) [.c k, .d (.lst as), .d (.int (s : Int))] ce = some (.d (gd f), ce.set k (.lst us)) ∧ StOk (n + 4 * s) us ∧ Pl f ∧ Wx f ∧ (pre f).length ≤ s := fun {w b} ex hb hw hor => by
          subst ex
          obtain ⟨f, us, sl, e4, hu, p, v, l⟩ := free_un (ih (s - 1) (by omega) (by omega)) (by omega) hz hc3 ha (by omega) hb hw
          have hlt3 : ltF (.int (s : Int)) (.int 3) = some (.bl (decide ((s : Int) < 3))) := rfl
          have tt : Hk.orM frT3 frT4 ⟨[some (.c k), some (.d (.lst as)), some (.d (.int (s : Int))), some (.d (.str w)), none], ce.set k (.lst zs) ++ [Ce.dead]⟩ = some (true, ⟨[some (.c k), some (.d (.lst as)), some (.d (.int (s : Int))), some (.d (.str w)), none], ce.set k (.lst zs) ++ [Ce.dead]⟩) := by
            cases b with
            | true => exact zv_orT (in_box hb) rfl
            | false =>
              have h4 : s < 3 := by
                rcases hor with h | h
                · cases h
                · exact h
              have e := zv_orF (in_box (r0 := some (.c k)) (r1 := some (.d (.lst as))) (r2 := some (.d (.int (s : Int)))) (r4 := none) (ce := ce.set k (.lst zs) ++ [Ce.dead]) hb) rfl (n := frT4) (zv_bind (zv_bind (zv_var rfl) (zv_bind zv_ret (zv_op2 zv_seeD zv_seeD hlt3))) zv_bool)
              rw [decide_eq_true (by omega)] at e
              exact e
          exact ⟨f, us, key (zk_seq first (zk_nx (zk_seq s3 (zk_nx (zk_seq (zk_ifT tt rfl e4) zk_rt))))) (trim_d (tk us)), hu.mono (by omega), p, v, l⟩
        have goBi : ∀ {o : Bi}, x = .str o.s → inF false (.str o.s) (.tup [.str "box", .str "not"]) = some (.bl false) → ¬ s < 3 → ∃ (f : Fm) (us : List Dt), FREE (fuel + 1) [.c k, .d (.lst as), .d (.int (s : Int))] ce = some (.d (gd f), ce.set k (.lst us)) ∧ StOk (n + 4 * s) us ∧ Pl f ∧ Wx f ∧ (pre f).length ≤ s := fun {o} ex hb h4 => by
          subst ex
          obtain ⟨f, us, sl, e4, hu, p, v, l⟩ := free_bi (o := o) ih (by omega) (by omega) hz hc3 ha (by omega)
          have hlt3 : ltF (.int (s : Int)) (.int 3) = some (.bl (decide ((s : Int) < 3))) := rfl
          have tt : Hk.orM frT3 frT4 ⟨[some (.c k), some (.d (.lst as)), some (.d (.int (s : Int))), some (.d (.str o.s)), none], ce.set k (.lst zs) ++ [Ce.dead]⟩ = some (false, ⟨[some (.c k), some (.d (.lst as)), some (.d (.int (s : Int))), some (.d (.str o.s)), none], ce.set k (.lst zs) ++ [Ce.dead]⟩) := by
            have e := zv_orF (in_box (r0 := some (.c k)) (r1 := some (.d (.lst as))) (r2 := some (.d (.int (s : Int)))) (r4 := none) (ce := ce.set k (.lst zs) ++ [Ce.dead]) hb) rfl (n := frT4) (zv_bind (zv_bind (zv_var rfl) (zv_bind zv_ret (zv_op2 zv_seeD zv_seeD hlt3))) zv_bool)
            rw [decide_eq_false (by omega)] at e
            exact e
          exact ⟨f, us, key (zk_seq first (zk_nx (zk_seq s3 (zk_nx (zk_seq (zk_ifF tt rfl zk_nil) (zk_nx e4)))))) (trim_d (tk us)), hu.mono (by omega), p, v, l⟩
        have hx : x = .str "box" ∨ x = .str "not" ∨ x = .str "and" ∨ x = .str "or" ∨ x = .str "if" := by
          simpa using hx
        by_cases h4 : s < 3
        · rcases hx with e | e | e | e | e
          · exact goUn e (b := true) rfl (fun _ => .inl rfl) (.inl rfl)
          · exact goUn e (b := true) rfl (fun _ => .inr rfl) (.inl rfl)
          · exact goUn e (b := false) rfl (fun h => by cases h) (.inr h4)
          · exact goUn e (b := false) rfl (fun h => by cases h) (.inr h4)
          · exact goUn e (b := false) rfl (fun h => by cases h) (.inr h4)
        · rcases hx with e | e | e | e | e
          · exact goUn e (b := true) rfl (fun _ => .inl rfl) (.inl rfl)
          · exact goUn e (b := true) rfl (fun _ => .inr rfl) (.inl rfl)
          · exact goBi (o := .and) e rfl h4
          · exact goBi (o := .or) e rfl h4
          · exact goBi (o := .iff) e rfl h4
theorem trim_at {n k : Nat} {ce ce0 : List Ce} {c : Ce} (h1 : n ≤ k) (h2 : ce[k]? = some c) (h3 : ce.take n = ce0) : trimC n (.c k) ce = some (.c n, ce0 ++ [c]) := by
  unfold trimC
  show (if k < n then _ else _) = _
  rw [if_neg (by omega), h2, h3]
theorem tup2 {E : En} (a b : Dt) {m n : M Vl} (h : m E = some (.d a, E)) (g : n E = some (.d b, E)) : tupM (consM m (consM n (retM []))) E = some (.d (.tup [a, b]), E) := zv_tup (zv_cons h (zv_cons g zv_ret)) (by show 2 ≤ 100000; decide) (zv_fzA1 zv_fzD (zv_fzA1 zv_fzD zv_fzA0))
/-! ### a text says its form -/
def Leaf5 (f : Fm) : Prop := f = .yes false ∨ f = .no false ∨ f = .letter false "p" ∨ f = .letter false "q" ∨ f = .letter false "word" ∨ f = .act false "me" "him" ∨ f = .act false "him" "me" ∨ f = .act false "him" "abe"
theorem leaf5 {f : Fm} (h : Wx f) (hp : Pl f) : Leaf5 f ∨ (∃ u g, f = .un false u g ∧ Wx g ∧ Pl g) ∨ ∃ o g k, f = .bi false o g k ∧ Wx g ∧ Pl g ∧ Wx k ∧ Pl k := by
  cases f with
  | yes b => cases (show b = false from hp); exact .inl (.inl rfl)
  | no b => cases (show b = false from hp); exact .inl (.inr (.inl rfl))
  | letter b s =>
    cases (show b = false from hp)
    rcases (show Lx s from h) with rfl | rfl | rfl
    · exact .inl (.inr (.inr (.inl rfl)))
    · exact .inl (.inr (.inr (.inr (.inl rfl))))
    · exact .inl (.inr (.inr (.inr (.inr (.inl rfl)))))
  | act b s t =>
    cases (show b = false from hp)
    rcases (show Ax s t from h) with ⟨rfl, rfl⟩ | ⟨rfl, rfl⟩ | ⟨rfl, rfl⟩
    · exact .inl (.inr (.inr (.inr (.inr (.inr (.inl rfl))))))
    · exact .inl (.inr (.inr (.inr (.inr (.inr (.inr (.inl rfl)))))))
    · exact .inl (.inr (.inr (.inr (.inr (.inr (.inr (.inr rfl)))))))
  | un b u g =>
    obtain ⟨rfl, h2⟩ := (show b = false ∧ Pl g from hp)
    exact .inr (.inl ⟨u, g, rfl, h, h2⟩)
  | bi b o g k =>
    obtain ⟨rfl, h2, h3⟩ := (show b = false ∧ Pl g ∧ Pl k from hp)
    exact .inr (.inr ⟨o, g, k, rfl, h.1, h2, h.2, h3⟩)
theorem tl_yes : tl (.yes false) = [121, 101, 115] := by show wd "yes" = _; decide +kernel
theorem tl_no : tl (.no false) = [110, 111] := by show wd "no" = _; decide +kernel
theorem tl_p : tl (.letter false "p") = [112] := by show wd "p" = _; decide +kernel
theorem tl_q : tl (.letter false "q") = [113] := by show wd "q" = _; decide +kernel
theorem tl_word : tl (.letter false "word") = [119, 111, 114, 100] := by show wd "word" = _; decide +kernel
theorem tl_a1 : tl (.act false "me" "him") = [109, 101, 45, 104, 105, 109] := by show wd "me" ++ [45] ++ wd "him" = _; decide +kernel
theorem tl_a2 : tl (.act false "him" "me") = [104, 105, 109, 45, 109, 101] := by show wd "him" ++ [45] ++ wd "me" = _; decide +kernel
theorem tl_a3 : tl (.act false "him" "abe") = [104, 105, 109, 45, 97, 98, 101] := by show wd "him" ++ [45] ++ wd "abe" = _; decide +kernel
theorem tl_bi (o : Bi) (f g : Fm) (r : List Nat) : tl (.bi false o f g) ++ r = 40 :: (tl f ++ (32 :: o.c :: 32 :: (tl g ++ (41 :: r)))) := by
  show 40 :: (tl f ++ o.m ++ tl g ++ [41]) ++ r = _
  simp [Bi.m]
theorem Un.c_inj {u v : Un} (h : u.c = v.c) : u = v := by
  cases u <;> cases v <;> first | rfl | (exact absurd h (by decide))
theorem Bi.c_inj {u v : Bi} (h : u.c = v.c) : u = v := by
  cases u <;> cases v <;> first | rfl | (exact absurd h (by decide))
theorem Un.c_or (u : Un) : u.c = 126 ∨ u.c = 35 := by cases u <;> simp [Un.c]
theorem leaf_ur {f g : Fm} {r1 r2 : List Nat} (hf : Leaf5 f) (hg : Leaf5 g) (h : tl f ++ r1 = tl g ++ r2) : f = g ∧ r1 = r2 := by
  rcases hf with rfl | rfl | rfl | rfl | rfl | rfl | rfl | rfl <;> rcases hg with rfl | rfl | rfl | rfl | rfl | rfl | rfl | rfl <;> simp only [tl_yes, tl_no, tl_p, tl_q, tl_word, tl_a1, tl_a2, tl_a3, List.cons_append, List.nil_append, List.cons.injEq] at h <;> simp_all
theorem leaf_in {f : Fm} (hf : Leaf5 f) : ∃ c t, tl f = c :: t ∧ 97 ≤ c ∧ c ≤ 122 := by
  rcases hf with rfl | rfl | rfl | rfl | rfl | rfl | rfl | rfl
  · exact ⟨_, _, tl_yes, by decide, by decide⟩
  · exact ⟨_, _, tl_no, by decide, by decide⟩
  · exact ⟨_, _, tl_p, by decide, by decide⟩
  · exact ⟨_, _, tl_q, by decide, by decide⟩
  · exact ⟨_, _, tl_word, by decide, by decide⟩
  · exact ⟨_, _, tl_a1, by decide, by decide⟩
  · exact ⟨_, _, tl_a2, by decide, by decide⟩
  · exact ⟨_, _, tl_a3, by decide, by decide⟩
def isLf : Fm → Bool
  | .un _ _ _ => false
  | .bi _ _ _ _ => false
  | _ => true
theorem leaf_of {f : Fm} (h : Wx f) (hp : Pl f) (hl : isLf f = true) : Leaf5 f := by
  rcases leaf5 h hp with h | ⟨u, g, rfl, _⟩ | ⟨o, g, k, rfl, _⟩
  · exact h
  · cases hl
  · cases hl
theorem base {f g : Fm} {r1 r2 : List Nat} (hf : Leaf5 f) (hg : Wx g) (pg : Pl g) (h : tl f ++ r1 = tl g ++ r2) : f = g ∧ r1 = r2 := by
  rcases leaf5 hg pg with hg' | ⟨v, k, rfl, hk, pk⟩ | ⟨o, k, l, rfl, _⟩
  · exact leaf_ur hf hg' h
  · obtain ⟨c, t, e, hc, _⟩ := leaf_in hf
    rw [e] at h
    have h := (List.cons.injEq ..).mp (show c :: (t ++ r1) = v.c :: (tl k ++ r2) from h)
    rcases v.c_or with q | q <;> omega
  · obtain ⟨c, t, e, hc, _⟩ := leaf_in hf
    rw [e, tl_bi] at h
    have h := (List.cons.injEq ..).mp (show c :: (t ++ r1) = 40 :: _ from h)
    omega
theorem ur : ∀ (f : Fm) {g : Fm} {r1 r2 : List Nat}, Wx f → Pl f → Wx g → Pl g → tl f ++ r1 = tl g ++ r2 → f = g ∧ r1 = r2 := by
  intro f
  induction f with
  | yes b => intro g r1 r2 hf pf hg pg h; exact base (leaf_of hf pf rfl) hg pg h
  | no b => intro g r1 r2 hf pf hg pg h; exact base (leaf_of hf pf rfl) hg pg h
  | letter b s => intro g r1 r2 hf pf hg pg h; exact base (leaf_of hf pf rfl) hg pg h
  | act b s t => intro g r1 r2 hf pf hg pg h; exact base (leaf_of hf pf rfl) hg pg h
  | un b u f ih =>
    intro g r1 r2 hf pf hg pg h
    obtain ⟨rfl, pf2⟩ := (show b = false ∧ Pl f from pf)
    rcases leaf5 hg pg with hg' | ⟨v, k, rfl, hk, pk⟩ | ⟨o, k, l, rfl, _⟩
    · obtain ⟨c, t, e, hc, _⟩ := leaf_in hg'
      rw [e] at h
      have h := (List.cons.injEq ..).mp (show u.c :: (tl f ++ r1) = c :: (t ++ r2) from h)
      rcases u.c_or with q | q <;> omega
    · have h := (List.cons.injEq ..).mp (show u.c :: (tl f ++ r1) = v.c :: (tl k ++ r2) from h)
      obtain ⟨rfl, e⟩ := ih hf pf2 hk pk h.2
      rw [Un.c_inj h.1]
      exact ⟨rfl, e⟩
    · rw [tl_bi] at h
      have h := (List.cons.injEq ..).mp (show u.c :: (tl f ++ r1) = 40 :: _ from h)
      rcases u.c_or with q | q <;> omega
  | bi b o f k ihf ihk =>
    intro g r1 r2 hf pf hg pg h
    obtain ⟨rfl, pf1, pf2⟩ := (show b = false ∧ Pl f ∧ Pl k from pf)
    rw [tl_bi] at h
    rcases leaf5 hg pg with hg' | ⟨v, k', rfl, hk, pk⟩ | ⟨o', f', k', rfl, h1, h2, h3, h4⟩
    · obtain ⟨c, t, e, hc, _⟩ := leaf_in hg'
      rw [e] at h
      have h := (List.cons.injEq ..).mp (show 40 :: _ = c :: (t ++ r2) from h)
      omega
    · have h := (List.cons.injEq ..).mp (show 40 :: _ = v.c :: (tl k' ++ r2) from h)
      rcases v.c_or with q | q <;> omega
    · rw [tl_bi] at h
      have h := ((List.cons.injEq ..).mp h).2
      obtain ⟨rfl, e⟩ := ihf hf.1 pf1 h1 h2 h
      simp only [List.cons.injEq, true_and] at e
      obtain ⟨rfl, e2⟩ := ihk hf.2 pf2 h3 h4 e.2
      rw [Bi.c_inj e.1]
      exact ⟨rfl, ((List.cons.injEq ..).mp e2).2⟩
/-- the forms that are looked at -/
def Gx (f : Fm) : Prop := Wx f ∧ Pl f
theorem tx_inj {f g : Fm} (hf : Gx f) (hg : Gx g) (h : tx f = tx g) : f = g := by
  have h2 : tl f = tl g := by
    have := congrArg wd h
    unfold tx at this
    rw [wd_mkS, wd_mkS] at this
    exact this
  exact (ur f (r1 := []) (r2 := []) hf.1 hf.2 hg.1 hg.2 (by rw [h2])).1
def kf (f : Fm) : Key := .inr (tx f)
theorem kf_inj {f g : Fm} (hf : Gx f) (hg : Gx g) (h : kf f = kf g) : f = g := tx_inj hf hg (Sum.inr.inj h)
theorem Gx.pre : ∀ {f : Fm}, Gx f → ∀ x ∈ pre f, Gx x
  | .yes _, h, x, hx => by rw [List.mem_singleton.mp hx]; exact h
  | .no _, h, x, hx => by rw [List.mem_singleton.mp hx]; exact h
  | .letter _ _, h, x, hx => by rw [List.mem_singleton.mp hx]; exact h
  | .act _ _ _, h, x, hx => by rw [List.mem_singleton.mp hx]; exact h
  | .un _ _ f, h, x, hx => by
    rcases List.mem_cons.mp hx with rfl | hx
    · exact h
    · exact Gx.pre (f := f) ⟨h.1, h.2.2⟩ x hx
  | .bi _ _ f g, h, x, hx => by
    rcases List.mem_cons.mp hx with rfl | hx
    · exact h
    · rcases List.mem_append.mp hx with hx | hx
      · exact Gx.pre (f := f) ⟨h.1.1, h.2.2.1⟩ x hx
      · exact Gx.pre (f := g) ⟨h.1.2, h.2.2.2⟩ x hx
/-! ### signs_in -/
theorem zv_ext2 {E : En} {mo : M Vl} {ma : M (List Vl)} {c : Nat} {r : Vl} {as0 acc ds : List Dt} {sl sl2 : List (Option Vl)} {ce ce2 : List Ce} (ho : mo E = some (.c c, ⟨sl, ce⟩)) (h0 : see ce (.c c) = some (.lst as0)) (ha : ma ⟨sl, ce⟩ = some ([r], ⟨sl2, ce2⟩)) (hr : see ce2 r = some (.lst ds)) (h3 : ce2[c]? = some (.lst acc)) (hl : acc.length + ds.length ≤ 100000) :
    bmM "list" mo ma extF2 E = some (.d .non, ⟨sl2, ce2.set c (.lst (acc ++ ds))⟩) := by
  refine zv_bind ho ?_
  show (match see ce (.c c) with
    | some d => if tyB "list" d = true then (Hk.bindM ma fun xs => extF2 (.c c) xs) ⟨sl, ce⟩ else none
    | none => none) = _
  rw [h0]
  refine zv_bind (m := ma) ha ?_
  show (match see ce2 r with
    | some (.tup ds) => onC (fun acc => if acc.length + ds.length ≤ 100000 then some (.non, acc ++ ds) else none) (.c c) ⟨sl2, ce2⟩
    | _ => extF (.c c) [r] ⟨sl2, ce2⟩) = _
  rw [hr]
  show (match see ce2 r with
    | some (.lst ds) => onC (fun acc => if acc.length + ds.length ≤ 100000 then some (.non, acc ++ ds) else none) (.c c) ⟨sl2, ce2⟩
    | _ => none) = _
  rw [hr]
  show (match ce2[c]? with
    | some (.lst xs) => match (if xs.length + ds.length ≤ 100000 then some (Dt.non, xs ++ ds) else none) with
      | some (d, ys) => some (Vl.d d, (⟨sl2, ce2.set c (.lst ys)⟩ : En))
      | none => none
    | _ => none) = _
  rw [h3]
  simp only [if_pos hl]
theorem zv_extT {E : En} {mo : M Vl} {ma : M (List Vl)} {c : Nat} {r : Vl} {as0 acc ds : List Dt} {sl sl2 : List (Option Vl)} {ce ce2 : List Ce} (ho : mo E = some (.c c, ⟨sl, ce⟩)) (h0 : see ce (.c c) = some (.lst as0)) (ha : ma ⟨sl, ce⟩ = some ([r], ⟨sl2, ce2⟩)) (hr : see ce2 r = some (.tup ds)) (h3 : ce2[c]? = some (.lst acc)) (hl : acc.length + ds.length ≤ 100000) :
    bmM "list" mo ma extF2 E = some (.d .non, ⟨sl2, ce2.set c (.lst (acc ++ ds))⟩) := by
  refine zv_bind ho ?_
  show (match see ce (.c c) with
    | some d => if tyB "list" d = true then (Hk.bindM ma fun xs => extF2 (.c c) xs) ⟨sl, ce⟩ else none
    | none => none) = _
  rw [h0]
  refine zv_bind (m := ma) ha ?_
  show (match see ce2 r with
    | some (.tup ds) => onC (fun acc => if acc.length + ds.length ≤ 100000 then some (.non, acc ++ ds) else none) (.c c) ⟨sl2, ce2⟩
    | _ => extF (.c c) [r] ⟨sl2, ce2⟩) = _
  rw [hr]
  show (match ce2[c]? with
    | some (.lst xs) => match (if xs.length + ds.length ≤ 100000 then some (Dt.non, xs ++ ds) else none) with
      | some (d, ys) => some (Vl.d d, (⟨sl2, ce2.set c (.lst ys)⟩ : En))
      | none => none
    | _ => none) = _
  rw [h3]
  simp only [if_pos hl]
def kidsF : Fm → List Fm
  | .un _ _ f => [f]
  | .bi _ _ f g => [f, g]
  | _ => []
def preF (stk : List Fm) : List Fm := stk.flatMap pre
theorem preF_cons (f : Fm) (stk : List Fm) : preF (f :: stk) = pre f ++ preF stk := List.flatMap_cons ..
theorem preF_app (a b : List Fm) : preF (a ++ b) = preF a ++ preF b := List.flatMap_append ..
theorem pre_kids (f : Fm) : pre f = f :: preF (kidsF f) := by
  cases f with
  | un b u f =>
    show _ :: pre f = _ :: preF [f]
    rw [preF_cons]
    show _ = _ :: (pre f ++ [])
    rw [List.append_nil]
  | bi b o f g =>
    show _ :: (pre f ++ pre g) = _ :: preF [f, g]
    rw [preF_cons, preF_cons]
    show _ = _ :: (pre f ++ (pre g ++ []))
    rw [List.append_nil]
  | _ => rfl
theorem under_kids (f : Fm) : under f = ((kidsF f).reverse).map dt := by
  cases f <;> rfl
def siR : M (List Dt) := rng3M (consM (ixDM k_FORMS_IN (Hk.bindM (vM 3) fun x => Hk.bindM (retM (.d (.int 0))) (ixF x))) (consM (retM (.d (.int 0))) (consM (negM (retM (.d (.int 1)))) (retM []))))
def siK : M Vl := Hk.bindM (vM 3) fun x => Hk.bindM (vM 4) (ixF x)
def siC : M Vl := compM [4] siR (nameG 4) (retM true) siK
def siT : M Bool := Hk.bindM (vM 2) truM
def siB : En → Option Rs := seqS (setS 3 (bmM "list" (vM 2) (retM []) popF))
    (seqS (dropS (bmM "list" (vM 1) (consM (vM 3) (retM [])) appF))
    (dropS (bmM "list" (vM 2) (consM siC (retM [])) extF2)))
theorem si_is : m_signs_in = (seqS (setS 1 (lstM (retM [])))
    (seqS (setS 2 (lstM (consM (vM 0) (retM []))))
    (seqS (whileS siT siB 100000)
    (retS (vM 1))))) := rfl
def ssl (n : Nat) (x0 x3 : Option Vl) (x4 : Option Vl) : List (Option Vl) := [x0, some (.c (n + 0)), some (.c (n + 1)), x3, x4]
theorem hw_subs (f : Fm) : look2 (hw f) k_FORMS_IN = some (.int (nsub f)) := by
  cases f with
  | un b u f => cases u <;> rfl
  | bi b o f g => cases o <;> rfl
  | _ => rfl
theorem si_rng {f : Fm} {sl : List (Option Vl)} {ce : List Ce} (h3 : sl[3]? = some (some (.d (dt f)))) : siR ⟨sl, ce⟩ = some (rngD (nsub f) (nsub f), ⟨sl, ce⟩) := by
  have hn : (0 : Int) ≤ (nsub f : Int) ∧ (nsub f : Int) < 2 ^ 62 := by
    cases f <;> simp [nsub]
  have e : rngD (nsub f : Int) (nsub f) = rngD (nsub f : Int) ((nsub f : Int).toNat) := by rw [Int.toNat_natCast]
  rw [e]
  exact zv_rng3 (zv_cons (zv_ixD (zv_bind (zv_var h3) (zv_bind zv_ret (zv_ix zv_seeD zv_seeD (dt0 f)))) (hw_subs f)) (zv_cons zv_ret (zv_cons (zv_neg zv_ret) zv_ret))) hn
theorem si_turn {ce : List Ce} {S M acc : List Dt} {D : List Ce} {x0 z : Option Vl} {x d : Dt} {i : Int} (h : ixD x (.int i) = some d) (hl : acc.length < 1000) :
    turnC [4] (ce.length + (D.length + 2)) (nameG 4) (retM true) siK (.int i) ⟨ssl ce.length x0 (some (.d x)) z, tst ce S M (D ++ [.lst acc])⟩ = some ⟨ssl ce.length x0 (some (.d x)) (some (.d (.int i))), tst ce S M (D ++ [.lst (acc ++ [d])])⟩ := by
  have hm : siK ⟨ssl ce.length x0 (some (.d x)) (some (.d (.int i))), tst ce S M (D ++ [.lst acc])⟩ = some (.d d, ⟨ssl ce.length x0 (some (.d x)) (some (.d (.int i))), tst ce S M (D ++ [.lst acc])⟩) := zv_bind (zv_var rfl) (zv_bind (zv_var rfl) (zv_ix zv_seeD zv_seeD h))
  rw [zt_yes (E1 := ⟨ssl ce.length x0 (some (.d x)) (some (.d (.int i))), tst ce S M (D ++ [.lst acc])⟩) rfl rfl hm zv_fzD tst_get (by omega), tst_set]
theorem si_comp {f : Fm} {ce : List Ce} {S M : List Dt} {D : List Ce} {x0 : Option Vl} : siC ⟨ssl ce.length x0 (some (.d (dt f))) none, tst ce S M D⟩ = some (.c (ce.length + (D.length + 2)), ⟨ssl ce.length x0 (some (.d (dt f))) none, tst ce S M (D ++ [.lst (under f)])⟩) := by
  have key : ∃ z, compL [4] (ce.length + (D.length + 2)) (nameG 4) (retM true) siK (rngD (nsub f) (nsub f)) ⟨ssl ce.length x0 (some (.d (dt f))) none, tst ce S M (D ++ [.lst []])⟩ = some ⟨ssl ce.length x0 (some (.d (dt f))) z, tst ce S M (D ++ [.lst (under f)])⟩ := by
    cases f with
    | un b u f =>
      refine ⟨some (.d (.int 1)), ?_⟩
      show compL [4] _ _ _ _ (rngD 1 1) _ = _
      rw [rngD1, compL_cons, si_turn (d := dt f) rfl (by show 0 < 1000; decide)]
      rfl
    | bi b o f g =>
      refine ⟨some (.d (.int 1)), ?_⟩
      show compL [4] _ _ _ _ (rngD 2 2) _ = _
      rw [rngD2, compL_cons, si_turn (d := dt g) rfl (by show 0 < 1000; decide)]
      show compL [4] _ _ _ _ [.int 1] _ = _
      rw [compL_cons, si_turn (d := dt f) rfl (by show 1 < 1000; decide)]
      rfl
    | yes b => exact ⟨none, rfl⟩
    | no b => exact ⟨none, rfl⟩
    | letter b s => exact ⟨none, rfl⟩
    | act b s t => exact ⟨none, rfl⟩
  obtain ⟨z, key⟩ := key
  rw [← tst_new, ← tst_len] at key
  have := zv_comp (own := [4]) (si_rng (f := f) (sl := ssl ce.length x0 (some (.d (dt f))) none) (ce := tst ce S M D) rfl) key
  rw [tst_len] at this
  exact this
theorem si_turnB {f : Fm} {ce : List Ce} {S M : List Dt} {D : List Ce} {x0 x3 : Option Vl} (hS : S.length < 100000) (hM : M.length + 2 ≤ 100000) :
    siB ⟨ssl ce.length x0 x3 none, tst ce S (M ++ [dt f]) D⟩ = some (.nx ⟨ssl ce.length x0 (some (.d (dt f))) none, tst ce (S ++ [dt f]) (M ++ under f) (D ++ [.lst (under f)])⟩) := by
  have e1 : setS 3 (bmM "list" (vM 2) (retM []) popF) ⟨ssl ce.length x0 x3 none, tst ce S (M ++ [dt f]) D⟩ = some (.nx ⟨ssl ce.length x0 (some (.d (dt f))) none, tst ce S M D⟩) := zk_set (zv_popL (i := 1) (zv_var rfl) rfl rfl)
  have e2 : dropS (bmM "list" (vM 1) (consM (vM 3) (retM [])) appF) ⟨ssl ce.length x0 (some (.d (dt f))) none, tst ce S M D⟩ = some (.nx ⟨ssl ce.length x0 (some (.d (dt f))) none, tst ce (S ++ [dt f]) M D⟩) := zk_drop (zv_appL (i := 0) (zv_var rfl) (zv_cons (zv_var rfl) zv_ret) rfl hS rfl)
  have hu : (under f).length ≤ 2 := by cases f <;> simp [under]
  have hset : (tst ce (S ++ [dt f]) M (D ++ [.lst (under f)])).set (ce.length + 1) (.lst (M ++ under f)) = tst ce (S ++ [dt f]) (M ++ under f) (D ++ [.lst (under f)]) := by
    show (ce ++ _).set _ _ = _
    rw [set_L]
    rfl
  have e3 : dropS (bmM "list" (vM 2) (consM siC (retM [])) extF2) ⟨ssl ce.length x0 (some (.d (dt f))) none, tst ce (S ++ [dt f]) M D⟩ = some (.nx ⟨ssl ce.length x0 (some (.d (dt f))) none, tst ce (S ++ [dt f]) (M ++ under f) (D ++ [.lst (under f)])⟩) := by
    have := zv_ext2 (E := ⟨ssl ce.length x0 (some (.d (dt f))) none, tst ce (S ++ [dt f]) M D⟩) (mo := vM 2) (ma := consM siC (retM [])) (c := ce.length + 1) (r := .c (ce.length + (D.length + 2))) (as0 := M) (acc := M) (ds := under f) (sl := ssl ce.length x0 (some (.d (dt f))) none) (sl2 := ssl ce.length x0 (some (.d (dt f))) none) (ce := tst ce (S ++ [dt f]) M D) (ce2 := tst ce (S ++ [dt f]) M (D ++ [.lst (under f)])) (zv_var rfl) (zv_seeC (get_L rfl)) (zv_cons si_comp zv_ret) (zv_seeC tst_get) (get_L rfl) (by omega)
    rw [hset] at this
    exact zk_drop this
  exact zk_seq e1 (zk_nx (zk_seq e2 (zk_nx e3)))
def stkD (stk : List Fm) : List Dt := (stk.reverse).map dt
theorem stkD_cons (f : Fm) (stk : List Fm) : stkD (f :: stk) = stkD stk ++ [dt f] := by
  unfold stkD
  rw [List.reverse_cons, List.map_append]
  rfl
theorem stkD_kids (f : Fm) (stk : List Fm) : stkD (kidsF f ++ stk) = stkD stk ++ under f := by
  unfold stkD
  rw [under_kids, List.reverse_append, List.map_append]
theorem stkD_len (stk : List Fm) : (stkD stk).length = stk.length := by simp [stkD]
theorem stk_le : ∀ stk : List Fm, stk.length ≤ (preF stk).length
  | [] => Nat.le_refl _
  | f :: stk => by
    rw [preF_cons, List.length_append]
    have h1 := stk_le stk
    have h2 := pre_pos f
    show stk.length + 1 ≤ _
    omega
theorem si_test {ce : List Ce} {S M : List Dt} {D : List Ce} {x0 x3 x4 : Option Vl} : siT ⟨ssl ce.length x0 x3 x4, tst ce S M D⟩ = some (!M.isEmpty, ⟨ssl ce.length x0 x3 x4, tst ce S M D⟩) :=
  zv_bind (zv_var rfl) (zv_tru (zv_seeC (get_L (i := 1) rfl)) rfl)
theorem si_loop (ce : List Ce) (x0 : Option Vl) : ∀ (fuel : Nat) (stk : List Fm) (S : List Dt) (D : List Ce) (x3 : Option Vl), (preF stk).length < fuel → S.length + (preF stk).length ≤ 90000 →
    ∃ x3' D', whileS siT siB fuel ⟨ssl ce.length x0 x3 none, tst ce S (stkD stk) D⟩ = some (.nx ⟨ssl ce.length x0 x3' none, tst ce (S ++ (preF stk).map dt) [] D'⟩)
  | 0, stk, S, D, x3, h, _ => absurd h (Nat.not_lt_zero _)
  | fuel + 1, [], S, D, x3, h, hl => ⟨x3, D, zk_whF si_test rfl (by
      show _ = (⟨_, tst ce (S ++ []) [] D⟩ : En)
      rw [List.append_nil]
      rfl)⟩
  | fuel + 1, f :: stk, S, D, x3, h, hl => by
    have hp : (preF (f :: stk)).length = (preF (kidsF f ++ stk)).length + 1 := by
      rw [preF_cons, preF_app, pre_kids f, List.cons_append, List.length_cons]
    have hk := stk_le (f :: stk)
    have hk2 : stk.length + 1 ≤ (preF (f :: stk)).length := hk
    obtain ⟨x3', D', e⟩ := si_loop ce x0 fuel (kidsF f ++ stk) (S ++ [dt f]) (D ++ [.lst (under f)]) (some (.d (dt f))) (by omega) (by rw [List.length_append]; show S.length + 1 + _ ≤ _; omega)
    refine ⟨x3', D', ?_⟩
    rw [stkD_cons]
    refine zk_whT si_test (by cases stkD stk <;> rfl) (si_turnB (by omega) (by rw [stkD_len]; omega)) ?_
    rw [stkD_kids] at e
    rw [e]
    congr 4
    rw [List.append_assoc, preF_app, preF_cons, pre_kids f]
    simp
abbrev SIGNSIN : Fn := f_signs_in
theorem signsin_ok {f : Fm} (hl : (pre f).length ≤ 80000) (ce : List Ce) : SIGNSIN [.d (dt f)] ce = some (.c ce.length, ce ++ [.lst ((pre f).map dt)]) := by
  have hp : preF [f] = pre f := by
    rw [preF_cons]
    exact List.append_nil _
  obtain ⟨x3, D, e⟩ := si_loop ce (some (.d (dt f))) 100000 [f] [] [] none (by rw [hp]; omega) (by rw [hp]; show 0 + _ ≤ _; omega)
  rw [hp, List.nil_append] at e
  refine zf_rt (nl := 4) (m := m_signs_in) (E := ⟨ssl ce.length (some (.d (dt f))) x3 none, tst ce ((pre f).map dt) [] D⟩) (r := .c (ce.length + 0)) ?_ (trim_at (k := ce.length + 0) (Nat.le_refl _) (get_L rfl) (List.take_left' rfl))
  rw [si_is]
  have e1 : setS 1 (lstM (retM [])) ⟨[some (.d (dt f)), none, none, none, none], ce⟩ = some (.nx ⟨[some (.d (dt f)), some (.c (ce.length + 0)), none, none, none], ce ++ [.lst []]⟩) := zk_set (zv_lst zv_ret (by show 0 ≤ 100000; decide) zv_fzA0 zv_newL)
  have e2 : setS 2 (lstM (consM (vM 0) (retM []))) ⟨[some (.d (dt f)), some (.c (ce.length + 0)), none, none, none], ce ++ [.lst []]⟩ = some (.nx ⟨ssl ce.length (some (.d (dt f))) none none, tst ce [] (stkD [f]) []⟩) := by
    have := zk_set (i := 2) (zv_lst (zv_cons (zv_var (sl := [some (.d (dt f)), some (.c (ce.length + 0)), none, none, none]) (ce := ce ++ [.lst []]) (i := 0) rfl) zv_ret) (by show 1 ≤ 100000; decide) (zv_fzA1 zv_fzD zv_fzA0) zv_newL)
    rw [this]
    show some (Rs.nx ⟨[_, _, some (.c (ce ++ [Ce.lst []]).length), _, _], (ce ++ [.lst []]) ++ [_]⟩) = _
    rw [List.append_assoc, List.length_append]
    rfl
  exact zk_seq e1 (zk_nx (zk_seq e2 (zk_nx (zk_seq e (zk_nx (zk_ret (zv_var rfl)))))))

/-! ### outline_of -/
def isT : Fm → Bool
  | .letter _ _ => true
  | .act _ _ _ => true
  | .un _ .box _ => true
  | _ => false
def outH (f : Fm) : Dt := .tup [.str (hw f), match isT f with
  | true => txD f
  | false => .str ""]
def kidsO : Fm → List Fm
  | .un _ .not f => [f]
  | .bi _ _ f g => [f, g]
  | _ => []
def out : Fm → List Dt
  | .un b .not f => outH (.un b .not f) :: out f
  | .bi b o f g => outH (.bi b o f g) :: (out f ++ out g)
  | f => [outH f]
def outL (stk : List Fm) : List Dt := stk.flatMap out
theorem outL_cons (f : Fm) (stk : List Fm) : outL (f :: stk) = out f ++ outL stk := List.flatMap_cons ..
theorem outL_app (a b : List Fm) : outL (a ++ b) = outL a ++ outL b := List.flatMap_append ..
theorem out_kids (f : Fm) : out f = outH f :: outL (kidsO f) := by
  cases f with
  | un b u f =>
    cases u with
    | not =>
      show _ :: out f = _ :: outL [f]
      rw [outL_cons]
      show _ = _ :: (out f ++ [])
      rw [List.append_nil]
    | box => rfl
  | bi b o f g =>
    show _ :: (out f ++ out g) = _ :: outL [f, g]
    rw [outL_cons, outL_cons]
    show _ = _ :: (out f ++ (out g ++ []))
    rw [List.append_nil]
  | _ => rfl
theorem kidsO_len (f : Fm) : (preF (kidsO f)).length < (pre f).length := by
  rw [pre_kids f]
  show _ < (preF (kidsF f)).length + 1
  cases f with
  | un b u f =>
    cases u with
    | not => exact Nat.lt_succ_self _
    | box => exact Nat.succ_pos _
  | bi b o f g => exact Nat.lt_succ_self _
  | _ => exact Nat.succ_pos _
theorem told_ok (f : Fm) : inF false (.str (hw f)) k_TOLD = some (.bl (isT f)) := by
  cases f with
  | un b u f => cases u <;> rfl
  | bi b o f g => cases o <;> rfl
  | _ => rfl
def olH : M Vl := Hk.bindM (vM 3) fun x => Hk.bindM (retM (.d (.int 0))) (ixF x)
def olT : M Bool := Hk.bindM (Hk.bindM olH fun x => Hk.bindM (retM (.d k_TOLD)) (op2 (inF false) x)) boolM
def olX : M Vl := Hk.bindM (callM TEXTS (consM (fzV (callM SIGNSIN (consM (fzV (vM 3)) (retM [])))) (retM []))) fun x => Hk.bindM (retM (.d (.int 0))) (ixF x)
def olA : En → Option Rs := dropS (bmM "list" (vM 1) (consM (tupM (consM olH (consM olX (retM [])))) (retM [])) appF)
def olB : En → Option Rs := seqS (dropS (bmM "list" (vM 1) (consM (tupM (consM olH (consM (retM (.d (.str ""))) (retM [])))) (retM [])) appF))
    (dropS (bmM "list" (vM 2) (consM (backM (vM 3)) (retM [])) extF2))
def olW : M Bool := Hk.bindM (vM 2) truM
def olS : En → Option Rs := seqS (setS 3 (bmM "list" (vM 2) (retM []) popF)) (ifS olT olA olB)
theorem ol_is : m_outline_of TEXTS SIGNSIN = (seqS (setS 1 (lstM (retM [])))
    (seqS (setS 2 (lstM (consM (vM 0) (retM []))))
    (seqS (whileS olW olS 100000)
    (retS (vM 1))))) := rfl
def osl (n : Nat) (x0 x3 : Option Vl) : List (Option Vl) := [x0, some (.c (n + 0)), some (.c (n + 1)), x3]
theorem ol_head {f : Fm} {n : Nat} {x0 : Option Vl} {ce : List Ce} : olH ⟨osl n x0 (some (.d (dt f))), ce⟩ = some (.d (.str (hw f)), ⟨osl n x0 (some (.d (dt f))), ce⟩) := zv_bind (zv_var rfl) (zv_bind zv_ret (zv_ix zv_seeD zv_seeD (dt0 f)))
theorem osl_map {n k : Nat} {d0 d3 d : Dt} (h0 : n + 0 ≠ k) (h1 : n + 1 ≠ k) : (osl n (some (.d d0)) (some (.d d3))).map (Option.map (frzV k d)) = osl n (some (.d d0)) (some (.d d3)) := by
  show [some (Vl.d d0), some (if n + 0 = k then _ else .c (n + 0)), some (if n + 1 = k then _ else .c (n + 1)), some (Vl.d d3)] = _
  rw [if_neg h0, if_neg h1]
  rfl
theorem ol_text {f : Fm} (hw0 : Ws f) (hl : (pre f).length ≤ 1000) {ce : List Ce} {S M : List Dt} {D : List Ce} {d0 : Dt} : olX ⟨osl ce.length (some (.d d0)) (some (.d (dt f))), tst ce S M D⟩ = some (.d (txD f), ⟨osl ce.length (some (.d d0)) (some (.d (dt f))), tst ce S M (D ++ [.dead, .lst ((pre f).map txD)])⟩) := by
  have e1 : fzV (callM SIGNSIN (consM (fzV (vM 3)) (retM []))) ⟨osl ce.length (some (.d d0)) (some (.d (dt f))), tst ce S M D⟩ = some (.d (.lst ((pre f).map dt)), ⟨osl ce.length (some (.d d0)) (some (.d (dt f))), tst ce S M (D ++ [.dead])⟩) := by
    have h1 := zv_call (G := SIGNSIN) (m := consM (fzV (vM 3)) (retM [])) (E := ⟨osl ce.length (some (.d d0)) (some (.d (dt f))), tst ce S M D⟩) (zv_cons (zv_fzV (zv_var (i := 3) rfl) zv_fzD) zv_ret) (signsin_ok (f := f) (by omega) (tst ce S M D))
    have h2 := zv_fzV h1 (zv_fzC (get_new _ _))
    rw [set_new, osl_map (by rw [tst_len]; omega) (by rw [tst_len]; omega), tst_new] at h2
    exact h2
  have e2 : callM TEXTS (consM (fzV (callM SIGNSIN (consM (fzV (vM 3)) (retM [])))) (retM [])) ⟨osl ce.length (some (.d d0)) (some (.d (dt f))), tst ce S M D⟩ = some (.c (tst ce S M (D ++ [.dead])).length, ⟨osl ce.length (some (.d d0)) (some (.d (dt f))), tst ce S M (D ++ [.dead]) ++ [.lst ((pre f).map txD)]⟩) := by
    have t1 := texts_ok hw0 hl (tst ce S M (D ++ [.dead]))
    have t2 : consM (fzV (callM SIGNSIN (consM (fzV (vM 3)) (retM [])))) (retM []) ⟨osl ce.length (some (.d d0)) (some (.d (dt f))), tst ce S M D⟩ = some ([.d (.lst ((pre f).map dt))], ⟨osl ce.length (some (.d d0)) (some (.d (dt f))), tst ce S M (D ++ [.dead])⟩) := zv_cons e1 zv_ret
    exact zv_call (G := TEXTS) t2 t1
  have hx : ixD (.lst ((pre f).map txD)) (.int 0) = some (txD f) := by
    rw [pre_kids f]
    show atI ((f :: preF (kidsF f)).map txD) ((0 : Nat) : Int) = some (txD f)
    exact atI_nat rfl
  have e3 : (Hk.bindM (retM (.d (.int 0))) (ixF (.c (tst ce S M (D ++ [.dead])).length))) ⟨osl ce.length (some (.d d0)) (some (.d (dt f))), tst ce S M (D ++ [.dead]) ++ [.lst ((pre f).map txD)]⟩ = some (.d (txD f), ⟨osl ce.length (some (.d d0)) (some (.d (dt f))), tst ce S M (D ++ [.dead]) ++ [.lst ((pre f).map txD)]⟩) := zv_bind zv_ret (zv_ix (zv_seeC (get_new _ _)) zv_seeD hx)
  have e4 : olX ⟨osl ce.length (some (.d d0)) (some (.d (dt f))), tst ce S M D⟩ = some (.d (txD f), ⟨osl ce.length (some (.d d0)) (some (.d (dt f))), tst ce S M (D ++ [.dead]) ++ [.lst ((pre f).map txD)]⟩) := by
    unfold olX
    exact zv_bind e2 e3
  rw [tst_new, List.append_assoc] at e4
  exact e4
theorem ol_turn {f : Fm} (hw0 : Ws f) (hl : (pre f).length ≤ 1000) {ce : List Ce} {S M : List Dt} {D : List Ce} {d0 : Dt} {x3 : Option Vl} (hS : S.length < 100000) (hM : M.length + 2 ≤ 100000) :
    ∃ D', olS ⟨osl ce.length (some (.d d0)) x3, tst ce S (M ++ [dt f]) D⟩ = some (.nx ⟨osl ce.length (some (.d d0)) (some (.d (dt f))), tst ce (S ++ [outH f]) (M ++ ((kidsO f).reverse).map dt) D'⟩) := by
  have e1 : setS 3 (bmM "list" (vM 2) (retM []) popF) ⟨osl ce.length (some (.d d0)) x3, tst ce S (M ++ [dt f]) D⟩ = some (.nx ⟨osl ce.length (some (.d d0)) (some (.d (dt f))), tst ce S M D⟩) := zk_set (zv_popL (i := 1) (zv_var rfl) rfl rfl)
  have e2 : olT ⟨osl ce.length (some (.d d0)) (some (.d (dt f))), tst ce S M D⟩ = some (isT f, ⟨osl ce.length (some (.d d0)) (some (.d (dt f))), tst ce S M D⟩) := zv_bind (zv_bind ol_head (zv_bind zv_ret (zv_op2 zv_seeD zv_seeD (told_ok f)))) zv_bool
  cases ht : isT f with
  | true =>
    rw [ht] at e2
    have hk : kidsO f = [] := by
      cases f with
      | un b u f =>
        cases u with
        | not => cases ht
        | box => rfl
      | bi b o f g => cases ht
      | _ => rfl
    have ho : outH f = .tup [.str (hw f), txD f] := by
      unfold outH
      rw [ht]
    rw [hk, ho]
    show ∃ D', _ = some (Rs.nx ⟨_, tst ce _ (M ++ []) D'⟩)
    rw [List.append_nil]
    refine ⟨D ++ [.dead, .lst ((pre f).map txD)], zk_seq e1 (zk_nx (zk_ifT e2 rfl ?_))⟩
    have a1 : tupM (consM olH (consM olX (retM []))) ⟨osl ce.length (some (.d d0)) (some (.d (dt f))), tst ce S M D⟩ = some (.d (.tup [.str (hw f), txD f]), ⟨osl ce.length (some (.d d0)) (some (.d (dt f))), tst ce S M (D ++ [.dead, .lst ((pre f).map txD)])⟩) := zv_tup (zv_cons ol_head (zv_cons (ol_text hw0 hl) zv_ret)) (by show 2 ≤ 100000; decide) (zv_fzA1 zv_fzD (zv_fzA1 zv_fzD zv_fzA0))
    have a2 := zv_app (mo := vM 1) (c := ce.length + 0) (acc := S) (E := ⟨osl ce.length (some (.d d0)) (some (.d (dt f))), tst ce S M D⟩) (zv_var rfl) (zv_seeC (get_L rfl)) (zv_cons a1 zv_ret) zv_fzD (acc2 := S) (get_L rfl) hS
    rw [show (tst ce S M (D ++ [.dead, .lst ((pre f).map txD)])).set (ce.length + 0) (.lst (S ++ [.tup [.str (hw f), txD f]])) = tst ce (S ++ [.tup [.str (hw f), txD f]]) M (D ++ [.dead, .lst ((pre f).map txD)]) by
      show (ce ++ _).set _ _ = _
      rw [set_L]
      rfl] at a2
    exact zk_drop a2
  | false =>
    rw [ht] at e2
    have ho : outH f = .tup [.str (hw f), .str ""] := by
      unfold outH
      rw [ht]
    rw [ho]
    refine ⟨D, zk_seq e1 (zk_nx (zk_ifF e2 rfl ?_))⟩
    have a1 : tupM (consM olH (consM (retM (.d (.str ""))) (retM []))) ⟨osl ce.length (some (.d d0)) (some (.d (dt f))), tst ce S M D⟩ = some (.d (.tup [.str (hw f), .str ""]), ⟨osl ce.length (some (.d d0)) (some (.d (dt f))), tst ce S M D⟩) := tup2 _ _ ol_head zv_ret
    have a2 : dropS (bmM "list" (vM 1) (consM (tupM (consM olH (consM (retM (.d (.str ""))) (retM [])))) (retM [])) appF) ⟨osl ce.length (some (.d d0)) (some (.d (dt f))), tst ce S M D⟩ = some (.nx ⟨osl ce.length (some (.d d0)) (some (.d (dt f))), tst ce (S ++ [.tup [.str (hw f), .str ""]]) M D⟩) := zk_drop (zv_appL (i := 0) (zv_var rfl) (zv_cons a1 zv_ret) rfl hS rfl)
    have hb : ∃ ds, dt f = .tup ds ∧ (ds.drop 1).reverse = ((kidsO f).reverse).map dt := by
      cases f with
      | yes b => exact ⟨_, rfl, rfl⟩
      | no b => exact ⟨_, rfl, rfl⟩
      | letter b s => cases ht
      | act b s t => cases ht
      | un b u f =>
        cases u with
        | not => exact ⟨_, rfl, rfl⟩
        | box => cases ht
      | bi b o f g => exact ⟨_, rfl, rfl⟩
    obtain ⟨ds, hd, hb⟩ := hb
    have hlen : (((kidsO f).reverse).map dt).length ≤ 2 := by
      rw [List.length_map, List.length_reverse]
      cases f with
      | un b u f => cases u <;> simp [kidsO]
      | _ => simp [kidsO]
    have b1 : backM (vM 3) ⟨osl ce.length (some (.d d0)) (some (.d (dt f))), tst ce (S ++ [.tup [.str (hw f), .str ""]]) M D⟩ = some (.d (.tup (((kidsO f).reverse).map dt)), ⟨osl ce.length (some (.d d0)) (some (.d (dt f))), tst ce (S ++ [.tup [.str (hw f), .str ""]]) M D⟩) := zv_bind (zv_var rfl) (by
      rw [hd]
      show some (Vl.d (.tup (ds.drop 1).reverse), _) = _
      rw [hb])
    have hset : (tst ce (S ++ [.tup [.str (hw f), .str ""]]) M D).set (ce.length + 1) (.lst (M ++ ((kidsO f).reverse).map dt)) = tst ce (S ++ [.tup [.str (hw f), .str ""]]) (M ++ ((kidsO f).reverse).map dt) D := by
      show (ce ++ _).set _ _ = _
      rw [set_L]
      rfl
    have b2 := zv_extT (ce2 := tst ce (S ++ [.tup [.str (hw f), .str ""]]) M D) (ce := tst ce (S ++ [.tup [.str (hw f), .str ""]]) M D) (sl := osl ce.length (some (.d d0)) (some (.d (dt f)))) (E := ⟨osl ce.length (some (.d d0)) (some (.d (dt f))), tst ce (S ++ [.tup [.str (hw f), .str ""]]) M D⟩) (mo := vM 2) (c := ce.length + 1) (as0 := M) (acc := M) (zv_var rfl) (zv_seeC (get_L rfl)) (zv_cons b1 zv_ret) zv_seeD (get_L rfl) (by omega)
    rw [hset] at b2
    exact zk_seq a2 (zk_nx (zk_drop b2))
theorem ol_test {ce : List Ce} {S M : List Dt} {D : List Ce} {x0 x3 : Option Vl} : olW ⟨osl ce.length x0 x3, tst ce S M D⟩ = some (!M.isEmpty, ⟨osl ce.length x0 x3, tst ce S M D⟩) :=
  zv_bind (zv_var rfl) (zv_tru (zv_seeC (get_L (i := 1) rfl)) rfl)
theorem kidsO_ws {f : Fm} (h : Ws f) : ∀ x ∈ kidsO f, Ws x := by
  cases f with
  | un b u f =>
    cases u with
    | not =>
      intro x hx
      rw [List.mem_singleton.mp hx]
      exact h
    | box => exact fun x hx => by cases hx
  | bi b o f g =>
    intro x hx
    rcases List.mem_cons.mp hx with rfl | hx
    · exact h.1
    · rw [List.mem_singleton.mp hx]
      exact h.2
  | _ => exact fun x hx => by cases hx
theorem pre_le {x : Fm} : ∀ {stk : List Fm}, x ∈ stk → (pre x).length ≤ (preF stk).length
  | f :: stk, h => by
    rw [preF_cons, List.length_append]
    rcases List.mem_cons.mp h with rfl | h
    · omega
    · have := pre_le h
      omega
theorem ol_loop (ce : List Ce) (d0 : Dt) : ∀ (fuel : Nat) (stk : List Fm) (S : List Dt) (D : List Ce) (x3 : Option Vl), (∀ x ∈ stk, Ws x) → (preF stk).length ≤ 1000 → (preF stk).length < fuel → S.length + (preF stk).length ≤ 90000 →
    ∃ x3' D', whileS olW olS fuel ⟨osl ce.length (some (.d d0)) x3, tst ce S (stkD stk) D⟩ = some (.nx ⟨osl ce.length (some (.d d0)) x3', tst ce (S ++ outL stk) [] D'⟩)
  | 0, stk, S, D, x3, hw0, h1, h, _ => absurd h (Nat.not_lt_zero _)
  | fuel + 1, [], S, D, x3, hw0, h1, h, hl => ⟨x3, D, zk_whF ol_test rfl (by
      show _ = (⟨_, tst ce (S ++ []) [] D⟩ : En)
      rw [List.append_nil]
      rfl)⟩
  | fuel + 1, f :: stk, S, D, x3, hw0, h1, h, hl => by
    have hp : (preF (kidsO f ++ stk)).length < (preF (f :: stk)).length := by
      have := kidsO_len f
      rw [preF_cons, preF_app, List.length_append, List.length_append]
      omega
    have hk2 : stk.length + 1 ≤ (preF (f :: stk)).length := stk_le (f :: stk)
    have hwf := hw0 f List.mem_cons_self
    obtain ⟨D1, t1⟩ := ol_turn hwf (Nat.le_trans (pre_le List.mem_cons_self) h1) (ce := ce) (S := S) (M := stkD stk) (D := D) (d0 := d0) (x3 := x3) (by omega) (by rw [stkD_len]; omega)
    obtain ⟨x3', D', e⟩ := ol_loop ce d0 fuel (kidsO f ++ stk) (S ++ [outH f]) D1 (some (.d (dt f))) (fun x hx => by
      rcases List.mem_append.mp hx with hx | hx
      · exact kidsO_ws hwf x hx
      · exact hw0 x (List.mem_cons_of_mem _ hx)) (by omega) (by omega) (by rw [List.length_append]; show S.length + 1 + _ ≤ _; omega)
    refine ⟨x3', D', ?_⟩
    rw [stkD_cons]
    refine zk_whT ol_test (by cases stkD stk <;> rfl) t1 ?_
    rw [show stkD (kidsO f ++ stk) = stkD stk ++ ((kidsO f).reverse).map dt by unfold stkD; rw [List.reverse_append, List.map_append]] at e
    rw [e]
    congr 4
    rw [List.append_assoc, outL_app, outL_cons, out_kids f]
    simp
abbrev OUTL : Fn := f_outline_of TEXTS SIGNSIN
theorem outline_ok {f : Fm} (hw0 : Ws f) (hl : (pre f).length ≤ 1000) (ce : List Ce) : OUTL [.d (dt f)] ce = some (.c ce.length, ce ++ [.lst (out f)]) := by
  have hp : preF [f] = pre f := by
    rw [preF_cons]
    exact List.append_nil _
  have ho : outL [f] = out f := by
    rw [outL_cons]
    exact List.append_nil _
  obtain ⟨x3, D, e⟩ := ol_loop ce (dt f) 100000 [f] [] [] none (fun x hx => by rw [List.mem_singleton.mp hx]; exact hw0) (by rw [hp]; exact hl) (by rw [hp]; omega) (by rw [hp]; show 0 + _ ≤ _; omega)
  rw [ho, List.nil_append] at e
  refine zf_rt (nl := 3) (m := m_outline_of TEXTS SIGNSIN) (E := ⟨osl ce.length (some (.d (dt f))) x3, tst ce (out f) [] D⟩) (r := .c (ce.length + 0)) ?_ (trim_at (k := ce.length + 0) (Nat.le_refl _) (get_L rfl) (List.take_left' rfl))
  rw [ol_is]
  have e1 : setS 1 (lstM (retM [])) ⟨[some (.d (dt f)), none, none, none], ce⟩ = some (.nx ⟨[some (.d (dt f)), some (.c (ce.length + 0)), none, none], ce ++ [.lst []]⟩) := zk_set (zv_lst zv_ret (by show 0 ≤ 100000; decide) zv_fzA0 zv_newL)
  have e2 : setS 2 (lstM (consM (vM 0) (retM []))) ⟨[some (.d (dt f)), some (.c (ce.length + 0)), none, none], ce ++ [.lst []]⟩ = some (.nx ⟨osl ce.length (some (.d (dt f))) none, tst ce [] (stkD [f]) []⟩) := by
    have := zk_set (i := 2) (zv_lst (zv_cons (zv_var (sl := [some (.d (dt f)), some (.c (ce.length + 0)), none, none]) (ce := ce ++ [.lst []]) (i := 0) rfl) zv_ret) (by show 1 ≤ 100000; decide) (zv_fzA1 zv_fzD zv_fzA0) zv_newL)
    rw [this]
    show some (Rs.nx ⟨[_, _, some (.c (ce ++ [Ce.lst []]).length), _], (ce ++ [.lst []]) ++ [_]⟩) = _
    rw [List.append_assoc, List.length_append]
    rfl
  exact zk_seq e1 (zk_nx (zk_seq e2 (zk_nx (zk_seq e (zk_nx (zk_ret (zv_var rfl)))))))

/-! ### dicts -/
theorem kHas_iff {k : Key} {ks : List Key} : kHas k ks = true ↔ k ∈ ks := by
  unfold kHas
  rw [List.any_eq_true]
  constructor
  · rintro ⟨j, h1, h2⟩
    rw [← of_decide_eq_true h2]
    exact h1
  · intro h
    exact ⟨k, h, decide_eq_true rfl⟩
theorem kGet_some : ∀ {ks : List Key} {ds : List Dt} {k : Key}, ks.length = ds.length → (k ∈ ks ↔ (kGet k ks ds).isSome = true)
  | [], [], k, _ => by
    constructor
    · intro h; cases h
    · intro h; cases h
  | [], d :: ds, k, h => by cases h
  | j :: ks, [], k, h => by cases h
  | j :: ks, d :: ds, k, h => by
    show _ ↔ (if j = k then some d else kGet k ks ds).isSome = true
    by_cases e : j = k
    · rw [if_pos e]
      exact ⟨fun _ => rfl, fun _ => by rw [e]; exact List.mem_cons_self⟩
    · rw [if_neg e, ← kGet_some (ks := ks) (ds := ds) (Nat.succ.inj h)]
      exact ⟨fun q => (List.mem_cons.mp q).resolve_left fun z => e z.symm, fun q => List.mem_cons_of_mem _ q⟩
theorem kRep_len {k : Key} {d : Dt} : ∀ {ks : List Key} {ds : List Dt}, ks.length = ds.length → (kRep k d ks ds).length = ds.length
  | [], [], _ => rfl
  | [], e :: ds, h => by cases h
  | j :: ks, [], h => by cases h
  | j :: ks, e :: ds, h => congrArg Nat.succ (kRep_len (ks := ks) (ds := ds) (Nat.succ.inj h))
theorem kGet_rep {k k2 : Key} {d : Dt} : ∀ {ks : List Key} {ds : List Dt}, ks.length = ds.length → kGet k2 ks (kRep k d ks ds) = if k2 = k ∧ kHas k ks = true then some d else kGet k2 ks ds
  | [], [], _ => by
    rw [if_neg (fun z => List.not_mem_nil (kHas_iff.mp z.2))]
    rfl
  | [], e :: ds, h => by cases h
  | j :: ks, [], h => by cases h
  | j :: ks, e :: ds, h => by
    show (if j = k2 then some (if j = k then d else e) else kGet k2 ks (kRep k d ks ds)) = if k2 = k ∧ kHas k (j :: ks) = true then some d else (if j = k2 then some e else kGet k2 ks ds)
    rw [kGet_rep (ks := ks) (ds := ds) (Nat.succ.inj h)]
    by_cases e1 : j = k2
    · subst e1
      rw [if_pos rfl, if_pos rfl]
      by_cases e2 : j = k
      · subst e2
        rw [if_pos rfl, if_pos ⟨rfl, kHas_iff.mpr List.mem_cons_self⟩]
      · rw [if_neg e2, if_neg (fun z => e2 z.1)]
    · rw [if_neg e1, if_neg e1]
      by_cases e2 : k2 = k
      · subst e2
        by_cases e3 : kHas k2 ks = true
        · rw [if_pos ⟨rfl, e3⟩, if_pos ⟨rfl, kHas_iff.mpr (List.mem_cons_of_mem _ (kHas_iff.mp e3))⟩]
        · rw [if_neg (fun z => e3 z.2), if_neg (fun z => (List.mem_cons.mp (kHas_iff.mp z.2)).elim (fun q => e1 q.symm) fun q => e3 (kHas_iff.mpr q))]
      · rw [if_neg (fun z => e2 z.1), if_neg (fun z => e2 z.1)]
theorem kGet_app {k k2 : Key} {d : Dt} : ∀ {ks : List Key} {ds : List Dt}, ks.length = ds.length → k ∉ ks → kGet k2 (ks ++ [k]) (ds ++ [d]) = if k2 = k then some d else kGet k2 ks ds
  | [], [], _, _ => by
    show (if k = k2 then some d else none) = if k2 = k then some d else none
    by_cases e : k2 = k
    · rw [if_pos e, if_pos e.symm]
    · rw [if_neg e, if_neg fun z => e z.symm]
  | [], e :: ds, h, _ => by cases h
  | j :: ks, [], h, _ => by cases h
  | j :: ks, e :: ds, h, hn => by
    show (if j = k2 then some e else kGet k2 (ks ++ [k]) (ds ++ [d])) = if k2 = k then some d else (if j = k2 then some e else kGet k2 ks ds)
    rw [kGet_app (ks := ks) (ds := ds) (Nat.succ.inj h) fun z => hn (List.mem_cons_of_mem _ z)]
    by_cases e1 : j = k2
    · rw [if_pos e1, if_pos e1, if_neg fun z => hn (by rw [← z, e1]; exact List.mem_cons_self)]
    · rw [if_neg e1, if_neg e1]
/-- a dict and what it holds -/
structure DOk (ks : List Key) (ds : List Dt) (φ : Key → Option Dt) : Prop where
  len : ks.length = ds.length
  nd : ks.Nodup
  get : ∀ k, kGet k ks ds = φ k
theorem DOk.mem {ks : List Key} {ds : List Dt} {φ : Key → Option Dt} (h : DOk ks ds φ) {k : Key} : k ∈ ks ↔ (φ k).isSome = true := by
  rw [← h.get]
  exact kGet_some h.len
theorem DOk.put {ks : List Key} {ds : List Dt} {φ : Key → Option Dt} (h : DOk ks ds φ) (k : Key) (d : Dt) : DOk (kPutN k ks) (kPutD k d ks ds) (fun j => if j = k then some d else φ j) := by
  unfold kPutN kPutD
  by_cases e : kHas k ks = true
  · rw [if_pos e, if_pos e]
    refine ⟨by rw [kRep_len h.len]; exact h.len, h.nd, fun j => ?_⟩
    rw [kGet_rep h.len, h.get]
    by_cases e2 : j = k
    · rw [if_pos ⟨e2, e⟩, if_pos e2]
    · rw [if_neg (fun z => e2 z.1), if_neg e2]
  · rw [if_neg e, if_neg e]
    have hn : k ∉ ks := fun z => e (kHas_iff.mpr z)
    refine ⟨by rw [List.length_append, List.length_append, h.len]; rfl, ?_, fun j => ?_⟩
    · rw [List.nodup_append]
      exact ⟨h.nd, List.nodup_cons.mpr ⟨List.not_mem_nil, List.nodup_nil⟩, fun a ha b hb => by
        rw [List.mem_singleton.mp hb]
        exact fun z => hn (z ▸ ha)⟩
    · rw [kGet_app h.len hn, h.get]
/-! ### dict comprehensions over keys -/
theorem zd_yes {own : List Nat} {c : Nat} {g : Vl → En → Option En} {t : M Bool} {mk mv : M Vl} {d : Dt} {ds : List Dt} {E E1 E2 : En} {x : Vl} {z : Dt} {kk : Key} {ks : List Key} {es : List Dt} {sl : List (Option Vl)} {ce : List Ce} (hg : g (.d d) (wipeE own E) = some E1) (ht : t E1 = some (true, E2)) (hm : pairM mk mv E2 = some ((x, z), ⟨sl, ce⟩)) (hk : keyV x = some kk) (hc : ce[c]? = some (.dic ks es)) (hl : ks.length < 100000) :
    dcL own c g t mk mv (d :: ds) E = dcL own c g t mk mv ds ⟨sl, ce.set c (.dic (kPutN kk ks) (kPutD kk z ks es))⟩ := by
  conv => lhs; unfold dcL
  simp only [hg, ht, hm, hk, hc, if_pos hl]
theorem zv_dcomp {own : List Nat} {i : M (List Dt)} {g : Vl → En → Option En} {t : M Bool} {mk mv : M Vl} {ds : List Dt} {E E2 : En} {sl : List (Option Vl)} {ce : List Ce} (h : i E = some (ds, ⟨sl, ce⟩)) (hc : dcL own ce.length g t mk mv ds ⟨sl, ce ++ [.dic [] []]⟩ = some E2) :
    dcompM own i g t mk mv E = some (.c ce.length, ⟨bring sl E2.sl own, E2.ce⟩) := by
  unfold dcompM
  simp only [h, hc]
/-! ### dicts by the texts of forms -/
structure Fd (ks : List Key) (ds : List Dt) (L : List Fm) (v : Fm → Dt) : Prop where
  len : ks.length = ds.length
  nd : ks.Nodup
  get : ∀ x ∈ L, kGet (kf x) ks ds = some (v x)
  only : ∀ k ∈ ks, ∃ x ∈ L, k = kf x
theorem Fd.nil (v : Fm → Dt) : Fd [] [] [] v := ⟨rfl, List.nodup_nil, fun x h => absurd h List.not_mem_nil, fun k h => absurd h List.not_mem_nil⟩
theorem Fd.dok {ks : List Key} {ds : List Dt} {L : List Fm} {v : Fm → Dt} (h : Fd ks ds L v) : DOk ks ds (fun k => kGet k ks ds) := ⟨h.len, h.nd, fun _ => rfl⟩
theorem Fd.few {ks : List Key} {ds : List Dt} {L : List Fm} {v : Fm → Dt} (h : Fd ks ds L v) : ks.length ≤ L.length := by
  have h1 := h.nd.length_le_of_subset (l₂ := L.map kf) (fun k hk => by
    obtain ⟨x, hx, rfl⟩ := h.only k hk
    exact List.mem_map.mpr ⟨x, hx, rfl⟩)
  rw [List.length_map] at h1
  exact h1
theorem Fd.strs {ks : List Key} {L : List Fm} : (∀ k ∈ ks, ∃ x ∈ L, k = kf x) → ∃ ss : List Str, ks = ss.map Sum.inr := by
  induction ks with
  | nil => exact fun _ => ⟨[], rfl⟩
  | cons k r ih =>
    intro h
    obtain ⟨ss, e⟩ := ih fun x hx => h x (List.mem_cons_of_mem _ hx)
    obtain ⟨x, _, e2⟩ := h k List.mem_cons_self
    exact ⟨tx x :: ss, by rw [e, e2]; rfl⟩
/-- one more, whose value hangs on it alone -/
theorem Fd.put {ks : List Key} {ds : List Dt} {L : List Fm} {v : Fm → Dt} (h : Fd ks ds L v) (hL : ∀ x ∈ L, Gx x) {y : Fm} (hy : Gx y) : Fd (kPutN (kf y) ks) (kPutD (kf y) (v y) ks ds) (y :: L) v := by
  have g := h.dok.put (kf y) (v y)
  refine ⟨g.len, g.nd, fun x hx => ?_, fun k hk => ?_⟩
  · rw [g.get]
    by_cases e : kf x = kf y
    · rw [if_pos e]
      rcases List.mem_cons.mp hx with rfl | hx
      · rfl
      · rw [kf_inj (hL x hx) hy e]
    · rw [if_neg e]
      rcases List.mem_cons.mp hx with rfl | hx
      · exact absurd rfl e
      · exact h.get x hx
  · have := g.mem.mp hk
    by_cases e : k = kf y
    · exact ⟨y, List.mem_cons_self, e⟩
    · rw [if_neg e] at this
      obtain ⟨x, hx, e2⟩ := h.only k (h.dok.mem.mpr this)
      exact ⟨x, List.mem_cons_of_mem _ hx, e2⟩
/-! ### inner_of -/
def isX : Fm → Bool
  | .un _ .box _ => true
  | _ => false
def inB' : Fm → Fm
  | .un _ _ f => f
  | f => f
theorem hw_X (f : Fm) : decide (hw f = "box") = isX f := by
  cases f with
  | yes b => show decide (("yes" : Str) = "box") = false; decide +kernel
  | no b => show decide (("no" : Str) = "box") = false; decide +kernel
  | letter b s => show decide (("letter" : Str) = "box") = false; decide +kernel
  | act b s t => show decide (("act" : Str) = "box") = false; decide +kernel
  | un b u f => cases u; (show decide (("not" : Str) = "box") = false; decide +kernel); (show decide (("box" : Str) = "box") = true; decide +kernel)
  | bi b o f g => cases o; (show decide (("and" : Str) = "box") = false; decide +kernel); (show decide (("or" : Str) = "box") = false; decide +kernel); (show decide (("if" : Str) = "box") = false; decide +kernel)
theorem eX {f : Fm} : eqF (.str (hw f)) (.str "box") = some (.bl (isX f)) := eqw (hw_ok f) (by decide +kernel) (hw_X f)
theorem isX_box {f : Fm} (hx : isX f = true) : ∃ b, f = .un b .box (inB' f) := by
  cases f with
  | un b u g =>
    cases u with
    | not => cases hx
    | box => exact ⟨b, rfl⟩
  | _ => cases hx
def bxs (l : List Fm) : List Fm := l.filter isX
theorem seeK_at {ce : List Ce} {ks : List Key} {ds : List Dt} {D : List Ce} : seeK (ce ++ (.dic ks ds :: D)) (.c (ce.length + 0)) = some (ks, ds) := by
  show (match (ce ++ (Ce.dic ks ds :: D))[ce.length + 0]? with
    | some (.dic ks ds) => some (ks, ds)
    | some (.lkd ks ds) => some (ks, ds)
    | _ => none) = _
  rw [get_L (i := 0) rfl]
def prD (x : Fm) : Dt := .tup [txD x, dt x]
theorem zip_same : ∀ l : List Fm, zipD (l.map txD) (l.map dt) = l.map prD
  | [] => rfl
  | x :: l => by
    show prD x :: zipD (l.map txD) (l.map dt) = _
    rw [zip_same l]
    rfl
theorem texts_map : ∀ ss : List Str, texts (ss.map Sum.inr) = some ss
  | [] => rfl
  | s :: ss => by
    show (texts (ss.map Sum.inr)).map (s :: ·) = _
    rw [texts_map ss]
    rfl
theorem pre_small : ∀ (f x : Fm), x ∈ pre f → (pre x).length ≤ (pre f).length
  | .yes _, x, h => by rw [List.mem_singleton.mp h]; exact Nat.le_refl _
  | .no _, x, h => by rw [List.mem_singleton.mp h]; exact Nat.le_refl _
  | .letter _ _, x, h => by rw [List.mem_singleton.mp h]; exact Nat.le_refl _
  | .act _ _ _, x, h => by rw [List.mem_singleton.mp h]; exact Nat.le_refl _
  | .un b u f, x, h => by
    rcases List.mem_cons.mp h with rfl | h
    · exact Nat.le_refl _
    · exact Nat.le_trans (pre_small f x h) (Nat.le_succ _)
  | .bi b o f g, x, h => by
    rcases List.mem_cons.mp h with rfl | h
    · exact Nat.le_refl _
    · show _ ≤ (pre f ++ pre g).length + 1
      rw [List.length_append]
      rcases List.mem_append.mp h with h | h
      · have := pre_small f x h
        omega
      · have := pre_small g x h
        omega
/-- the boxes of a form -/
def BX (f : Fm) : List Fm := bxs (pre f)

abbrev LETS : Fn := f_Saying_letters
/-- the letters, each once -/
def letsF : List Fm → List Str → List Str
  | [], acc => acc
  | .letter _ s :: l, acc => letsF l (putT s acc)
  | _ :: l, acc => letsF l acc
def tfL : Dt → Option Bool := fun d => ((ixD d (.int 0)).bind fun x => eqF x (.str "letter")).bind blD
def mfL : Dt → Option Dt := fun d => ixD d (.int 1)
theorem tfL_ok (x : Fm) : tfL (dt x) = some (isL x) := by
  show ((ixD (dt x) (.int 0)).bind fun x => eqF x (.str "letter")).bind blD = _
  rw [dt0 x]
  show (eqF (.str (hw x)) (.str "letter")).bind blD = _
  rw [eL rfl]
  rfl
theorem gather_ok : ∀ (l : List Fm) (acc : List Str), acc.length + l.length ≤ 60 → gather tfL mfL (l.map dt) acc = some (letsF l acc)
  | [], acc, _ => rfl
  | x :: l, acc, h => by
    rw [List.length_cons] at h
    rw [List.map_cons]
    unfold gather
    rw [tfL_ok]
    cases x with
    | letter b s =>
      have hp := putT_len s acc
      show (match (mfL (dt (.letter b s))).bind stD with
        | some k => if acc.length < 60 then gather tfL mfL (l.map dt) (putT k acc) else none
        | none => none) = _
      show (if acc.length < 60 then gather tfL mfL (l.map dt) (putT s acc) else none) = _
      rw [if_pos (by omega), gather_ok l (putT s acc) (by omega)]
      rfl
    | un b u f => exact gather_ok l acc (by omega)
    | yes b => exact gather_ok l acc (by omega)
    | no b => exact gather_ok l acc (by omega)
    | act b s t => exact gather_ok l acc (by omega)
    | bi b o f g => exact gather_ok l acc (by omega)
theorem putT_mem {k s : Str} {l : List Str} : k ∈ putT s l ↔ k = s ∨ k ∈ l := by
  unfold putT
  by_cases e : s ∈ l
  · rw [if_pos e]
    exact ⟨.inr, fun h => h.elim (fun h => h ▸ e) id⟩
  · rw [if_neg e, List.mem_cons]
theorem putT_nd {s : Str} {l : List Str} (h : l.Nodup) : (putT s l).Nodup := by
  unfold putT
  by_cases e : s ∈ l
  · rw [if_pos e]; exact h
  · rw [if_neg e]; exact List.nodup_cons.mpr ⟨e, h⟩
theorem lets_mem : ∀ {l : List Fm} {acc : List Str} {k : Str}, k ∈ letsF l acc ↔ k ∈ acc ∨ ∃ b, .letter b k ∈ l
  | [], acc, k => ⟨.inl, fun h => h.elim id fun ⟨_, h⟩ => absurd h List.not_mem_nil⟩
  | x :: l, acc, k => by
    have other : (∀ b s, x ≠ .letter b s) → (k ∈ letsF l acc ↔ k ∈ acc ∨ ∃ b, .letter b k ∈ x :: l) := fun hx => by
      rw [lets_mem]
      refine ⟨fun h => h.imp id fun ⟨b, h⟩ => ⟨b, List.mem_cons_of_mem _ h⟩, fun h => h.imp id fun ⟨b, h⟩ => ⟨b, (List.mem_cons.mp h).resolve_left fun e => hx b k e.symm⟩⟩
    cases x with
    | letter b s =>
      show k ∈ letsF l (putT s acc) ↔ _
      rw [lets_mem, putT_mem]
      constructor
      · rintro ((h | h) | ⟨c, h⟩)
        · exact .inr ⟨b, by rw [h]; exact List.mem_cons_self⟩
        · exact .inl h
        · exact .inr ⟨c, List.mem_cons_of_mem _ h⟩
      · rintro (h | ⟨c, h⟩)
        · exact .inl (.inr h)
        · rcases List.mem_cons.mp h with h | h
          · injection h with _ h
            exact .inl (.inl h)
          · exact .inr ⟨c, h⟩
    | un b u f => exact other (by intro _ _ z; cases z)
    | yes b => exact other (by intro _ _ z; cases z)
    | no b => exact other (by intro _ _ z; cases z)
    | act b s t => exact other (by intro _ _ z; cases z)
    | bi b o f g => exact other (by intro _ _ z; cases z)
theorem lets_nd : ∀ {l : List Fm} {acc : List Str}, acc.Nodup → (letsF l acc).Nodup
  | [], acc, h => h
  | .letter _ s :: l, acc, h => lets_nd (l := l) (putT_nd h)
  | .un _ _ _ :: l, acc, h => lets_nd (l := l) h
  | .yes _ :: l, acc, h => lets_nd (l := l) h
  | .no _ :: l, acc, h => lets_nd (l := l) h
  | .act _ _ _ :: l, acc, h => lets_nd (l := l) h
  | .bi _ _ _ _ :: l, acc, h => lets_nd (l := l) h
/-- the letters of a form, ascending -/
def LR (f : Fm) : List Str := sortS (letsF (pre f) [])
theorem LR_mem {f : Fm} {k : Str} : k ∈ LR f ↔ ∃ b, .letter b k ∈ pre f := by
  unfold LR
  rw [(sortS_perm _).mem_iff, lets_mem]
  exact ⟨fun h => h.elim (fun h => absurd h List.not_mem_nil) id, .inr⟩
theorem LR_nd (f : Fm) : (LR f).Nodup := (sortS_perm _).nodup_iff.mpr (lets_nd List.nodup_nil)
theorem LR_lx {f : Fm} (h : Gx f) {k : Str} (hk : k ∈ LR f) : Lx k := by
  obtain ⟨b, hb⟩ := LR_mem.mp hk
  exact (h.pre _ hb).1
theorem LR_len {f : Fm} (h : Gx f) : (LR f).length ≤ 3 := by
  have h1 := (LR_nd f).length_le_of_subset (l₂ := ([("p" : Str), "q", "word"] : List Str)) (fun k hk => by
    rcases LR_lx h hk with rfl | rfl | rfl
    · exact List.mem_cons_self
    · exact List.mem_cons_of_mem _ List.mem_cons_self
    · exact List.mem_cons_of_mem _ (List.mem_cons_of_mem _ List.mem_cons_self))
  exact h1
def frL (f : Fm) : List Dt := (LR f).map .str
theorem lets_ok {f : Fm} (hl : (pre f).length ≤ 60) (ce : List Ce) : LETS [.d (sayD f)] ce = some (.c ce.length, ce ++ [.lst (frL f)]) := by
  have i1 : itemsM (fldM "Saying" "_signs" (vM 0)) ⟨[some (.d (sayD f)), none], ce⟩ = some ((pre f).map dt, ⟨[some (.d (sayD f)), none], ce⟩) := zv_items (zv_fld (zv_var rfl) zv_seeD (d := sgn f) rfl) zv_fzD rfl
  have e : sortPM 1 tfL mfL (itemsM (fldM "Saying" "_signs" (vM 0))) ⟨[some (.d (sayD f)), none], ce⟩ = some (.c (ce ++ [Ce.dead]).length, ⟨[some (.d (sayD f)), none], (ce ++ [.dead]) ++ [.lst (frL f)]⟩) := by
    unfold sortPM
    rw [i1]
    dsimp only
    rw [if_pos (by show 1 < 2; decide), gather_ok (pre f) [] (by show 0 + _ ≤ _; omega)]
    rfl
  exact zf_rt (nl := 1) (m := m_Saying_letters) (rs := [.d (sayD f)]) (zk_ret e) (trim_at (by rw [List.length_append]; exact Nat.le_add_right _ _) (get_new _ _) (by rw [List.append_assoc, List.take_left' rfl]))

/-! ### the boxes of a saying -/
abbrev BOX : Fn := f_Saying_boxes TEXTS INIT
def boT : M Bool := Hk.bindM (Hk.bindM (Hk.bindM (vM 4) fun x => Hk.bindM (retM (.d (.int 0))) (ixF x)) fun x => Hk.bindM (retM (.d (.str "box"))) (op2 eqF x)) boolM
def boZ : M (List Dt) := zipM (consM (vM 1) (consM (fldM "Saying" "_signs" (vM 0)) (retM [])))
def boD : M Vl := dcompM [3, 4] boZ (tupG [(nameG 3), (nameG 4)]) boT (vM 3) (vM 4)
def boV : M Vl := makeM "Saying" INIT (consM (fzV (dgM (vM 2) (vM 3))) (retM []))
def boS : M (List Dt) := itemsM (Hk.bindM (consM (vM 2) (retM [])) sortDF)
def boL : M Vl := compM [3] boS (nameG 3) (retM true) boV
theorem bxo_is : m_Saying_boxes TEXTS INIT = (seqS (setS 1 (callM TEXTS (consM (fzV (fldM "Saying" "_signs" (vM 0))) (retM []))))
    (seqS (setS 2 boD) (retS boL))) := rfl
theorem zd_no {own : List Nat} {c : Nat} {g : Vl → En → Option En} {t : M Bool} {mk mv : M Vl} {d : Dt} {ds : List Dt} {E E1 E2 : En} (hg : g (.d d) (wipeE own E) = some E1) (ht : t E1 = some (false, E2)) :
    dcL own c g t mk mv (d :: ds) E = dcL own c g t mk mv ds E2 := by
  conv => lhs; unfold dcL
  simp only [hg, ht]
theorem bxo_loop (x0 x1 : Option Vl) (ce : List Ce) : ∀ (l : List Fm) (ks : List Key) (ds : List Dt) (L : List Fm) (z3 z4 : Option Vl), (∀ x ∈ l, Gx x) → (∀ x ∈ L, Gx x) → Fd ks ds L dt → L.length + l.length < 100000 →
    ∃ ks' ds' L' y3 y4, dcL [3, 4] ce.length (tupG [(nameG 3), (nameG 4)]) boT (vM 3) (vM 4) (l.map prD) ⟨[x0, x1, none, z3, z4], ce ++ [.dic ks ds]⟩ = some ⟨[x0, x1, none, y3, y4], ce ++ [.dic ks' ds']⟩ ∧ Fd ks' ds' L' dt ∧ (∀ x, x ∈ L' ↔ x ∈ L ∨ x ∈ bxs l) ∧ ∀ x ∈ L', Gx x
  | [], ks, ds, L, z3, z4, hl, hL, hb, hn => ⟨ks, ds, L, z3, z4, rfl, hb, fun x => ⟨.inl, fun h => h.elim id fun h => absurd h List.not_mem_nil⟩, hL⟩
  | x :: l, ks, ds, L, z3, z4, hl, hL, hb, hn => by
    rw [List.length_cons] at hn
    have hx := hl x List.mem_cons_self
    have t : boT ⟨[x0, x1, none, some (.d (txD x)), some (.d (dt x))], ce ++ [.dic ks ds]⟩ = some (isX x, ⟨[x0, x1, none, some (.d (txD x)), some (.d (dt x))], ce ++ [.dic ks ds]⟩) := zv_bind (zv_bind (zv_bind (zv_var rfl) (zv_bind zv_ret (zv_ix zv_seeD zv_seeD (dt0 x)))) (zv_bind zv_ret (zv_op2 zv_seeD zv_seeD eX))) zv_bool
    have g : tupG [(nameG 3), (nameG 4)] (.d (prD x)) (wipeE [3, 4] ⟨[x0, x1, none, z3, z4], ce ++ [.dic ks ds]⟩) = some ⟨[x0, x1, none, some (.d (txD x)), some (.d (dt x))], ce ++ [.dic ks ds]⟩ := rfl
    have hbx : bxs (x :: l) = bxs [x] ++ bxs l := by
      unfold bxs
      rw [← List.filter_append]
      rfl
    cases e : isX x with
    | false =>
      rw [e] at t
      obtain ⟨ks', ds', L', y3, y4, q1, q2, q3, q4⟩ := bxo_loop x0 x1 ce l ks ds L (some (.d (txD x))) (some (.d (dt x))) (fun y hy => hl y (List.mem_cons_of_mem _ hy)) hL hb (by omega)
      refine ⟨ks', ds', L', y3, y4, ?_, q2, fun y => ?_, q4⟩
      · rw [List.map_cons, zd_no g t]
        exact q1
      · rw [q3, hbx, List.mem_append, show bxs [x] = [] by show [x].filter isX = []; rw [List.filter_cons_of_neg (by rw [e]; decide)]; rfl]
        exact ⟨fun h => h.elim .inl fun h => .inr (.inr h), fun h => h.elim .inl fun h => h.elim (fun h => absurd h List.not_mem_nil) .inr⟩
    | true =>
      rw [e] at t
      have hfew := hb.few
      obtain ⟨ks', ds', L', y3, y4, q1, q2, q3, q4⟩ := bxo_loop x0 x1 ce l (kPutN (kf x) ks) (kPutD (kf x) (dt x) ks ds) (x :: L) (some (.d (txD x))) (some (.d (dt x))) (fun y hy => hl y (List.mem_cons_of_mem _ hy)) (fun y hy => (List.mem_cons.mp hy).elim (fun z => z ▸ hx) (hL y)) (hb.put hL hx) (by rw [List.length_cons]; omega)
      have hp : pairM (vM 3) (vM 4) ⟨[x0, x1, none, some (.d (txD x)), some (.d (dt x))], ce ++ [.dic ks ds]⟩ = some ((.d (txD x), dt x), ⟨[x0, x1, none, some (.d (txD x)), some (.d (dt x))], ce ++ [.dic ks ds]⟩) := zv_bind (zv_var rfl) (zv_bind (zv_var rfl) (zv_bind zv_fzD zv_ret))
      have st := zd_yes (own := [3, 4]) (c := ce.length) (ds := l.map prD) (kk := kf x) g t hp rfl (get_new _ _) (by omega)
      rw [set_new] at st
      refine ⟨ks', ds', L', y3, y4, ?_, q2, fun y => ?_, q4⟩
      · rw [List.map_cons, st]
        exact q1
      · rw [q3, hbx, List.mem_append, show bxs [x] = [x] by show [x].filter isX = [x]; rw [List.filter_cons_of_pos e]; rfl, List.mem_cons, List.mem_singleton]
        constructor
        · rintro ((h | h) | h)
          · exact .inr (.inl h)
          · exact .inl h
          · exact .inr (.inr h)
        · rintro (h | h | h)
          · exact .inl (.inr h)
          · exact .inl (.inl h)
          · exact .inr h
theorem of_txs {L : List Fm} : ∀ {ss : List Str}, (∀ s ∈ ss, ∃ x ∈ L, s = tx x) → ∃ Bs : List Fm, ss = Bs.map tx ∧ ∀ x ∈ Bs, x ∈ L
  | [], _ => ⟨[], rfl, fun x h => absurd h List.not_mem_nil⟩
  | s :: ss, h => by
    obtain ⟨x, hx, e⟩ := h s List.mem_cons_self
    obtain ⟨Bs, e2, h2⟩ := of_txs (ss := ss) fun t ht => h t (List.mem_cons_of_mem _ ht)
    exact ⟨x :: Bs, by rw [e, e2]; rfl, fun y hy => (List.mem_cons.mp hy).elim (fun z => z ▸ hx) (h2 y)⟩
theorem box_ok {f : Fm} (hf : Gx f) (hl : (pre f).length ≤ 60) (ce : List Ce) : ∃ Bs : List Fm, BOX [.d (sayD f)] ce = some (.c ce.length, ce ++ [.lst (Bs.map sayD)]) ∧ Bs.Nodup ∧ (∀ x, x ∈ Bs ↔ x ∈ BX f) ∧ Bs.map tx = setS1 ((BX f).map tx) := by
  generalize hx0 : Vl.d (sayD f) = x0
  have fs : ∀ (sl : List (Option Vl)) (C : List Ce), sl[0]? = some (some x0) → fldM "Saying" "_signs" (vM 0) ⟨sl, C⟩ = some (.d (.lst ((pre f).map dt)), ⟨sl, C⟩) := fun sl C h => zv_fld (zv_var h) (d := .lst ((pre f).map dt)) (by rw [← hx0]; exact zv_seeD) rfl
  have s1 : setS 1 (callM TEXTS (consM (fzV (fldM "Saying" "_signs" (vM 0))) (retM []))) ⟨[some x0, none, none, none, none], ce⟩ = some (.nx ⟨[some x0, some (.c ce.length), none, none, none], ce ++ [.lst ((pre f).map txD)]⟩) := zk_set (zv_call (G := TEXTS) (zv_cons (zv_fzV (fs _ _ rfl) zv_fzD) zv_ret) (texts_ok hf.1.ws (by omega) ce))
  have hz : boZ ⟨[some x0, some (.c ce.length), none, none, none], ce ++ [.lst ((pre f).map txD)]⟩ = some ((pre f).map prD, ⟨[some x0, some (.d (.lst ((pre f).map txD))), none, none, none], ce ++ [.dead]⟩) := by
    have t3 := zv_fzC (k := ce.length) (xs := (pre f).map txD) (sl := [some x0, some (.c ce.length), none, none, none]) (ce := ce ++ [.lst ((pre f).map txD)]) (get_new _ _)
    rw [set_new, show ([some x0, some (.c ce.length), none, none, none] : List (Option Vl)).map (Option.map (frzV ce.length (.lst ((pre f).map txD)))) = [some x0, some (.d (.lst ((pre f).map txD))), none, none, none] by
      rw [← hx0]
      show [some (Vl.d (sayD f)), some (if ce.length = ce.length then _ else _), none, none, none] = _
      rw [if_pos rfl]] at t3
    refine zv_bind (zv_cons (zv_var rfl) (zv_cons (fs _ _ rfl) zv_ret)) (zv_bind t3 (zv_bind zv_fzD ?_))
    show some (zipD ((pre f).map txD) ((pre f).map dt), _) = _
    rw [zip_same]
  obtain ⟨ks, ds, L, y3, y4, e2, b, hL, hG⟩ := bxo_loop (some x0) (some (.d (.lst ((pre f).map txD)))) (ce ++ [.dead]) (pre f) [] [] [] none none (fun x hx => hf.pre x hx) (fun x h => absurd h List.not_mem_nil) (Fd.nil _) (by show 0 + _ < _; omega)
  have hL2 : ∀ x, x ∈ L ↔ x ∈ BX f := fun x => by
    rw [hL x]
    exact ⟨fun h => h.elim (fun h => absurd h List.not_mem_nil) id, .inr⟩
  have s2 : setS 2 boD ⟨[some x0, some (.c ce.length), none, none, none], ce ++ [.lst ((pre f).map txD)]⟩ = some (.nx ⟨[some x0, some (.d (.lst ((pre f).map txD))), some (.c (ce ++ [Ce.dead]).length), none, none], (ce ++ [.dead]) ++ [.dic ks ds]⟩) := zk_set (zv_dcomp hz e2)
  generalize hC : ce ++ [Ce.dead] = C at *
  have hfew : ks.length ≤ 60 := by
    have := b.nd.length_le_of_subset (l₂ := (pre f).map kf) fun k hk => by
      obtain ⟨x, hx, rfl⟩ := b.only k hk
      exact List.mem_map.mpr ⟨x, (List.mem_filter.mp ((hL2 x).mp hx)).1, rfl⟩
    rw [List.length_map] at this
    omega
  obtain ⟨ss, hss⟩ := Fd.strs b.only
  have hperm : ((sortS ss).map (Sum.inr : Str → Key)).Perm ks := by
    rw [hss]
    exact (sortS_perm ss).map _
  have hsl : ss.length = ks.length := by rw [hss, List.length_map]
  obtain ⟨Bs, hBs, hBL⟩ := of_txs (L := L) (ss := sortS ss) fun s hs => by
    obtain ⟨x, hx, e⟩ := b.only (.inr s) (hperm.mem_iff.mp (List.mem_map.mpr ⟨s, hs, rfl⟩))
    exact ⟨x, hx, Sum.inr.inj e⟩
  have hnd : Bs.Nodup := by
    have h1 : ((sortS ss).map (Sum.inr : Str → Key)).Nodup := hperm.symm.nodup b.nd
    rw [hBs, List.map_map] at h1
    exact (List.pairwise_map.mp h1).imp fun h e => h (by rw [e])
  have hmem : ∀ x, x ∈ Bs ↔ x ∈ BX f := fun x => by
    rw [← hL2]
    refine ⟨hBL x, fun hx => ?_⟩
    have h1 : kf x ∈ ks := (b.dok.mem).mpr (by rw [b.get x hx]; rfl)
    have h2 := hperm.mem_iff.mpr h1
    obtain ⟨s, hs, e⟩ := List.mem_map.mp h2
    rw [hBs] at hs
    obtain ⟨y, hy, e3⟩ := List.mem_map.mp hs
    have : tx y = tx x := by
      rw [e3]
      exact Sum.inr.inj e
    rw [← tx_inj (hG y (hBL y hy)) (hG x hx) this]
    exact hy
  have hS : boS ⟨[some x0, some (.d (.lst ((pre f).map txD))), some (.c C.length), none, none], C ++ [.dic ks ds]⟩ = some (Bs.map txD, ⟨[some x0, some (.d (.lst ((pre f).map txD))), some (.c C.length), none, none], (C ++ [.dic ks ds]) ++ [.dead]⟩) := by
    have s1 : (Hk.bindM (consM (vM 2) (retM [])) sortDF) ⟨[some x0, some (.d (.lst ((pre f).map txD))), some (.c C.length), none, none], C ++ [.dic ks ds]⟩ = some (.c (C ++ [Ce.dic ks ds]).length, ⟨[some x0, some (.d (.lst ((pre f).map txD))), some (.c C.length), none, none], (C ++ [.dic ks ds]) ++ [.lst ((sortS ss).map .str)]⟩) := by
      refine zv_bind (zv_cons (zv_var rfl) zv_ret) ?_
      have q : (seeK (C ++ [Ce.dic ks ds]) (.c C.length)).bind (fun p => texts p.1) = some ss := by
        rw [seeK_new]
        show texts ks = some ss
        rw [hss]
        exact texts_map ss
      show (match (seeK (C ++ [Ce.dic ks ds]) (.c C.length)).bind (fun p => texts p.1) with
        | some ss => if ss.length < 64 then newL ((sortS ss).map .str) ⟨[some x0, some (.d (.lst ((pre f).map txD))), some (.c C.length), none, none], C ++ [Ce.dic ks ds]⟩ else none
        | none => none) = _
      rw [q]
      show (if ss.length < 64 then newL ((sortS ss).map .str) ⟨[some x0, some (.d (.lst ((pre f).map txD))), some (.c C.length), none, none], C ++ [Ce.dic ks ds]⟩ else none) = _
      rw [if_pos (by omega)]
      rfl
    have s2 := zv_items s1 (zv_fzC (get_new _ _)) rfl
    unfold boS
    rw [s2, set_new, hBs, List.map_map, show ([some x0, some (.d (.lst ((pre f).map txD))), some (.c C.length), none, none] : List (Option Vl)).map (Option.map (frzV (C ++ [Ce.dic ks ds]).length (.lst (Bs.map (Dt.str ∘ tx))))) = [some x0, some (.d (.lst ((pre f).map txD))), some (.c C.length), none, none] by
      rw [← hx0]
      show [some (Vl.d (sayD f)), some (Vl.d (.lst ((pre f).map txD))), some (frzV _ _ (Vl.c C.length)), none, none] = _
      rw [frz_c (by rw [List.length_append]; exact Nat.ne_of_lt (Nat.lt_succ_self _))]]
    rfl
  obtain ⟨gs, e3⟩ := comp_all (v := 3) (m := boV) Bs txD sayD hS (by show 3 < 5; decide) (by
    have : Bs.length = (sortS ss).length := by rw [hBs, List.length_map]
    have h2 := hperm.length_eq
    rw [List.length_map] at h2
    omega) fun x hx c gs => by
    have gx := hG x (hBL x hx)
    have d1 : dgM (vM 2) (vM 3) ⟨([some x0, some (.d (.lst ((pre f).map txD))), some (.c C.length), none, none] : List (Option Vl)).set 3 (some (.d (txD x))), (C ++ [.dic ks ds]) ++ [.dead] ++ [c] ++ gs⟩ = some (.d (dt x), ⟨([some x0, some (.d (.lst ((pre f).map txD))), some (.c C.length), none, none] : List (Option Vl)).set 3 (some (.d (txD x))), (C ++ [.dic ks ds]) ++ [.dead] ++ [c] ++ gs⟩) := by
      refine zv_dg (k := kf x) (ks := ks) (ds := ds) (zv_var rfl) (zv_var rfl) ?_ rfl (b.get x (hBL x hx))
      rw [List.append_assoc C, List.append_assoc C, List.append_assoc C]
      show seeK (C ++ (Ce.dic ks ds :: ([Ce.dead] ++ [c] ++ gs))) (.c C.length) = _
      exact seeK_at (ce := C)
    generalize hsl3 : ([some x0, some (.d (.lst ((pre f).map txD))), some (.c C.length), none, none] : List (Option Vl)).set 3 (some (.d (txD x))) = sl3 at *
    have mk := make_ok (f := x) (m := consM (fzV (dgM (vM 2) (vM 3))) (retM [])) gx.1.wf (Nat.le_trans (pre_small f x (List.mem_filter.mp ((hmem x).mp hx)).1) (by omega)) (by rw [gx.2.eq]; exact zv_cons (zv_fzV d1 zv_fzD) zv_ret)
    have fz := zv_fzX (sl := sl3) (d := sayD x) (get_new ((C ++ [.dic ks ds]) ++ [.dead] ++ [c] ++ gs) (sayC x)) rfl
    have hm : sl3.map (Option.map (frzV (C ++ [Ce.dic ks ds] ++ [Ce.dead] ++ [c] ++ gs).length (sayD x))) = sl3 := by
      rw [← hsl3, ← hx0]
      show [some (Vl.d (sayD f)), some (Vl.d (.lst ((pre f).map txD))), some (frzV _ _ (Vl.c C.length)), some (Vl.d (txD x)), none] = _
      rw [frz_c (by simp only [List.length_append]; show C.length ≠ C.length + 1 + 1 + 1 + gs.length; omega)]
      rfl
    rw [set_new, hm, List.append_assoc _ gs [Ce.dead]] at fz
    exact ⟨_, _, gs ++ [.dead], mk, fz⟩
  have hrun : m_Saying_boxes TEXTS INIT ⟨[some x0, none, none, none, none], ce⟩ = some (.rt (.c ((C ++ [Ce.dic ks ds]) ++ [Ce.dead]).length) ⟨[some x0, some (.d (.lst ((pre f).map txD))), some (.c C.length), none, none], (C ++ [.dic ks ds]) ++ [.dead] ++ [.lst (Bs.map sayD)] ++ gs⟩) := by
    rw [bxo_is]
    exact zk_seq s1 (zk_nx (zk_seq s2 (zk_nx (zk_ret e3))))
  refine ⟨Bs, zf_rt (nl := 4) (rs := [x0]) hrun (trim_at ?_ (get_mid _ _ _) ?_), hnd, hmem, ?_⟩
  · rw [← hC]
    simp only [List.length_append]
    omega
  · rw [← hC, List.append_assoc, List.append_assoc, List.append_assoc, List.append_assoc]
    exact List.take_left' rfl
  · have sn : ss.Nodup := by
      have h1 := b.nd
      rw [hss] at h1
      exact (List.pairwise_map.mp h1).imp fun h e => h (by rw [e])
    rw [← hBs]
    refine (setS1_same sn fun y => ?_).symm
    rw [← (sortS_perm ss).mem_iff, hBs, List.mem_map, List.mem_map]
    exact ⟨fun ⟨x, hx, e⟩ => ⟨x, (hmem x).mp hx, e⟩, fun ⟨x, hx, e⟩ => ⟨x, (hmem x).mpr hx, e⟩⟩

/-! ### a form and all in it -/
abbrev INN : Fn := f__law_inner
abbrev LALL : Nat → Fn := f__law_all INN
def subs : Fm → List Fm
  | .un _ _ f => [f]
  | .bi _ _ f g => [f, g]
  | _ => []
theorem pre_subs (f : Fm) : pre f = f :: (subs f).flatMap pre := by
  cases f <;> simp [pre, subs]
def inC : M Bool := Hk.bindM (Hk.bindM (Hk.bindM (vM 0) fun x => Hk.bindM (retM (.d (.int 0))) (ixF x)) fun x => Hk.bindM (tupM (consM (retM (.d (.str "yes"))) (consM (retM (.d (.str "no"))) (consM (retM (.d (.str "letter"))) (consM (retM (.d (.str "act"))) (retM [])))))) (op2 (inF false) x)) boolM
theorem inn_is : m__law_inner = retS (ifM inC (tupM (retM [])) (Hk.bindM (vM 0) fun x => Hk.bindM (partM (retM (.d (.int 1)))) fun l => Hk.bindM (retM none) fun h => slF x l h)) := rfl
theorem inC_ok {f : Fm} {b : Bool} {ce : List Ce} (h : inF false (.str (hw f)) (.tup [.str "yes", .str "no", .str "letter", .str "act"]) = some (.bl b)) : inC ⟨[some (.d (dt f))], ce⟩ = some (b, ⟨[some (.d (dt f))], ce⟩) :=
  zv_bind (zv_bind (zv_bind (zv_var rfl) (zv_bind zv_ret (zv_ix zv_seeD zv_seeD (dt0 f)))) (zv_bind (zv_tup (zv_cons zv_ret (zv_cons zv_ret (zv_cons zv_ret (zv_cons zv_ret zv_ret)))) (by show 4 ≤ 100000; decide) (zv_fzA1 zv_fzD (zv_fzA1 zv_fzD (zv_fzA1 zv_fzD (zv_fzA1 zv_fzD zv_fzA0))))) (zv_op2 zv_seeD zv_seeD h))) zv_bool
theorem inn_ok (f : Fm) (ce : List Ce) : INN [.d (dt f)] ce = some (.d (.tup ((subs f).map dt)), ce) := by
  refine zf_rt (E := ⟨[some (.d (dt f))], ce⟩) ?_ (trim_d (List.take_of_length_le (Nat.le_refl _)))
  rw [inn_is]
  have leaf : ∀ {f : Fm}, subs f = [] → inF false (.str (hw f)) (.tup [.str "yes", .str "no", .str "letter", .str "act"]) = some (.bl true) → retS (ifM inC (tupM (retM [])) (Hk.bindM (vM 0) fun x => Hk.bindM (partM (retM (.d (.int 1)))) fun l => Hk.bindM (retM none) fun h => slF x l h)) ⟨[some (.d (dt f))], ce⟩ = some (.rt (.d (.tup ((subs f).map dt))) ⟨[some (.d (dt f))], ce⟩) := fun {f} h0 h1 => by
    rw [h0]
    exact zk_ret (zv_ifT (inC_ok h1) rfl (zv_tup zv_ret (by show 0 ≤ 100000; decide) zv_fzA0))
  have node : ∀ {f : Fm} {xs : List Dt}, dt f = .tup (.str (hw f) :: xs) → xs = (subs f).map dt → inF false (.str (hw f)) (.tup [.str "yes", .str "no", .str "letter", .str "act"]) = some (.bl false) → retS (ifM inC (tupM (retM [])) (Hk.bindM (vM 0) fun x => Hk.bindM (partM (retM (.d (.int 1)))) fun l => Hk.bindM (retM none) fun h => slF x l h)) ⟨[some (.d (dt f))], ce⟩ = some (.rt (.d (.tup ((subs f).map dt))) ⟨[some (.d (dt f))], ce⟩) := fun {f xs} h0 h1 h2 => by
    subst h1
    refine zk_ret (zv_ifF (inC_ok h2) rfl (zv_bind (zv_var rfl) (zv_bind (zv_part zv_ret) (zv_bind zv_ret ?_))))
    have e := zv_slT (E := ⟨[some (.d (dt f))], ce⟩) (x := .d (dt f)) (xs := .str (hw f) :: (subs f).map dt) (lo := some 1) (hi := none) (by rw [h0]; rfl)
    rw [show cutD (.str (hw f) :: (subs f).map dt) (some 1) none = (subs f).map dt from cut_drop _ 1 (by rw [List.length_cons]; omega)] at e
    exact e
  cases f with
  | yes b => exact leaf rfl (by show inF false (.str "yes") (.tup [.str "yes", .str "no", .str "letter", .str "act"]) = _; rfl)
  | no b => exact leaf rfl (by show inF false (.str "no") (.tup [.str "yes", .str "no", .str "letter", .str "act"]) = _; rfl)
  | letter b s => exact leaf rfl (by show inF false (.str "letter") (.tup [.str "yes", .str "no", .str "letter", .str "act"]) = _; rfl)
  | act b s t => exact leaf rfl (by show inF false (.str "act") (.tup [.str "yes", .str "no", .str "letter", .str "act"]) = _; rfl)
  | un b u f => exact node (xs := [dt f]) rfl rfl (by cases u <;> rfl)
  | bi b o f g => exact node (xs := [dt f, dt g]) rfl rfl (by cases o <;> rfl)
def alB (G : Fn) : En → Option Rs := dropS (bmM "list" (vM 1) (consM (callM G (consM (fzV (vM 2)) (retM []))) (retM [])) extF2)
theorem al_is (G : Fn) : m__law_all INN G = seqS (setS 1 (lstM (consM (vM 0) (retM []))))
    (seqS (forS (itemsM (callM INN (consM (fzV (vM 0)) (retM [])))) (nameG 2) (alB G)) (retS (vM 1))) := rfl
def AlOk (G : Fn) (f : Fm) : Prop := ∀ ce : List Ce, G [.d (dt f)] ce = some (.c ce.length, ce ++ [Ce.lst ((pre f).map dt)])
theorem al_loop {G : Fn} {F : Dt} {ce : List Ce} : ∀ (gs : List Fm), (∀ g ∈ gs, AlOk G g) → ∀ {acc : List Dt} {D : List Ce} {z : Option Vl}, acc.length + (gs.flatMap pre).length ≤ 90000 →
    ∃ (D' : List Ce) (z' : Option Vl), forL (nameG 2) (alB G) (gs.map dt) ⟨[some (.d F), some (.c ce.length), z], ce ++ [Ce.lst acc] ++ D⟩ = some (.nx ⟨[some (.d F), some (.c ce.length), z'], ce ++ [Ce.lst (acc ++ (gs.flatMap pre).map dt)] ++ D'⟩)
  | [], _, acc, D, z, _ => ⟨D, z, by rw [List.flatMap_nil, List.map_nil, List.append_nil]; exact fl_nil⟩
  | g :: gs, hg, acc, D, z, hl => by
    rw [List.flatMap_cons, List.length_append] at hl
    have e1 := hg g List.mem_cons_self (ce ++ [Ce.lst acc] ++ D)
    have gm : (ce ++ [Ce.lst acc] ++ D)[ce.length]? = some (Ce.lst acc) := get_mid _ _ _
    have gm2 : (ce ++ [Ce.lst acc] ++ D ++ [Ce.lst ((pre g).map dt)])[ce.length]? = some (Ce.lst acc) := by
      rw [List.append_assoc (ce ++ [Ce.lst acc])]
      exact get_mid _ _ _
    have e2 := zv_ext2 (E := ⟨[some (.d F), some (.c ce.length), some (.d (dt g))], ce ++ [Ce.lst acc] ++ D⟩) (mo := vM 1) (ma := consM (callM G (consM (fzV (vM 2)) (retM []))) (retM [])) (zv_var rfl) (zv_seeC gm) (zv_cons (zv_call (zv_cons (zv_fzV (zv_var rfl) zv_fzD) zv_ret) e1) zv_ret) (zv_seeC (get_new _ _)) gm2 (by rw [List.length_map]; omega)
    rw [List.append_assoc (ce ++ [Ce.lst acc]) D, set_mid] at e2
    obtain ⟨D', z', e3⟩ := al_loop (F := F) (ce := ce) gs (fun g hg2 => hg g (List.mem_cons_of_mem _ hg2)) (acc := acc ++ (pre g).map dt) (D := D ++ [Ce.lst ((pre g).map dt)]) (z := some (.d (dt g))) (by rw [List.length_append, List.length_map]; omega)
    refine ⟨D', z', fl_cons rfl (zk_drop e2) ?_⟩
    rw [List.append_assoc acc] at e3
    rw [List.flatMap_cons, List.map_append]
    exact e3
theorem all_ok : ∀ (n : Nat) (f : Fm), (pre f).length ≤ n → (pre f).length ≤ 1000 → AlOk (LALL n) f
  | 0, f, h, _ => by
    have := pre_pos f
    omega
  | n + 1, f, h, h2 => fun ce => by
    have hp := pre_subs f
    have hlen : (pre f).length = ((subs f).flatMap pre).length + 1 := by rw [hp, List.length_cons]
    have hsub : ∀ g ∈ subs f, AlOk (LALL n) g := fun g hg => by
      have hle : (pre g).length ≤ ((subs f).flatMap pre).length := by
        cases f with
        | un b u f => simp only [subs, List.mem_singleton] at hg; subst hg; simp [subs]
        | bi b o f k =>
          simp only [subs, List.mem_cons, List.not_mem_nil, or_false] at hg
          rcases hg with rfl | rfl <;> simp [subs]
        | _ => exact absurd hg List.not_mem_nil
      exact all_ok n g (by omega) (by omega)
    obtain ⟨D, z, e⟩ := al_loop (G := LALL n) (F := dt f) (ce := ce) (subs f) hsub (acc := [dt f]) (D := []) (z := none) (by show 1 + _ ≤ 90000; omega)
    rw [List.append_nil] at e
    have e1 : setS 1 (lstM (consM (vM 0) (retM []))) ⟨[some (.d (dt f)), none, none], ce⟩ = some (.nx ⟨[some (.d (dt f)), some (.c ce.length), none], ce ++ [Ce.lst [dt f]]⟩) := zk_set (zv_lst (zv_cons (zv_var rfl) zv_ret) (by show 1 ≤ 100000; decide) (zv_fzA1 zv_fzD zv_fzA0) zv_newL)
    refine zf_rt (E := ⟨[some (.d (dt f)), some (.c ce.length), z], ce ++ [Ce.lst ([dt f] ++ ((subs f).flatMap pre).map dt)] ++ D⟩) (r := .c ce.length) ?_ (trim_at (Nat.le_refl _) (c := Ce.lst ((pre f).map dt)) (by rw [hp]; exact get_mid _ _ _) (by rw [List.append_assoc, List.take_left']; rfl))
    rw [al_is]
    exact zk_seq e1 (zk_nx (zk_seq (zk_for (zv_items (zv_call (zv_cons (zv_fzV (zv_var rfl) zv_fzD) zv_ret) (inn_ok f _)) zv_fzD rfl) e) (zk_nx (zk_ret (zv_var rfl)))))
/-! ### the names of a form -/
theorem txtsD_map : ∀ ks : List Str, txtsD (ks.map .str) = some ks
  | [] => rfl
  | k :: ks => by
    show (txtsD (ks.map .str)).map (k :: ·) = _
    rw [txtsD_map ks]
    rfl
theorem zv_sortS {m : M Vl} {E : En} {r : Vl} {sl : List (Option Vl)} {ce : List Ce} {ks : List Str} (h : m E = some (r, ⟨sl, ce⟩)) (hs : see ce r = some (.lst (ks.map .str))) (hl : ks.length < 60) : sortSM m E = some (.c (ce.length + 1), ⟨sl, ce ++ [.dead, .lst ((setS1 ks).map .str)]⟩) := by
  unfold sortSM
  have e : (lstS ce r).bind txtsD = some ks := by
    unfold lstS
    rw [hs]
    exact txtsD_map ks
  rw [h]
  simp only [e, if_pos hl]
  exact newL_at (L := [Ce.dead])
def lnm : Fm → Str
  | .letter _ s => s
  | _ => ""
theorem eqw_letter (f : Fm) : eqF (.str (hw f)) (.str "letter") = some (.bl (isL f)) := by
  cases h : isL f with
  | false => exact eL h
  | true =>
    cases f with
    | letter b s => exact eqw (a := "letter") (k := true) (by decide +kernel) (by decide +kernel) (by decide +kernel)
    | yes _ => cases h
    | no _ => cases h
    | act _ _ _ => cases h
    | un _ _ _ => cases h
    | bi _ _ _ _ => cases h

/-! ### acts -/
abbrev ACTS : Fn := f_Saying_acts
def ACT3 : List (List Str) := [["me", "him"], ["him", "me"], ["him", "abe"]]
def actW : Fm → List Str
  | .act _ s t => [s, t]
  | _ => []
def actsF : List Fm → List (List Str) → List (List Str)
  | [], acc => acc
  | x :: l, acc => actsF l (if isA x = true then Hk.putK (actW x) acc else acc)
def tfA : Dt → Option Bool := fun d => ((ixD d (.int 0)).bind fun x => eqF x (.str "act")).bind blD
def mfA : Dt → Option Dt := fun d => pairF (ixD d (.int 1)) (ixD d (.int 2))
theorem tfA_ok (x : Fm) : tfA (dt x) = some (isA x) := by
  show ((ixD (dt x) (.int 0)).bind fun x => eqF x (.str "act")).bind blD = _
  rw [dt0 x]
  show (eqF (.str (hw x)) (.str "act")).bind blD = _
  rw [eA rfl]
  rfl
theorem isA_act {x : Fm} (h : isA x = true) : ∃ b s t, x = .act b s t := by
  cases x with
  | act b s t => exact ⟨b, s, t, rfl⟩
  | _ => cases h
theorem mfA_ok {x : Fm} (h : isA x = true) : mfA (dt x) = some (txT (actW x)) := by
  obtain ⟨b, s, t, rfl⟩ := isA_act h
  rfl
theorem gx_act {x : Fm} (hx : Gx x) (h : isA x = true) : actW x ∈ ACT3 := by
  obtain ⟨b, s, t, rfl⟩ := isA_act h
  rcases (show Ax s t from hx.1) with ⟨rfl, rfl⟩ | ⟨rfl, rfl⟩ | ⟨rfl, rfl⟩
  · exact List.mem_cons_self
  · exact List.mem_cons_of_mem _ List.mem_cons_self
  · exact List.mem_cons_of_mem _ (List.mem_cons_of_mem _ List.mem_cons_self)
theorem act3_ne {k : List Str} (h : k ∈ ACT3) : k ≠ [] := by
  intro e
  subst e
  rcases List.mem_cons.mp h with h | h
  · cases h
  rcases List.mem_cons.mp h with h | h
  · cases h
  rcases List.mem_cons.mp h with h | h
  · cases h
  cases h
theorem act3_few {l : List (List Str)} (nd : l.Nodup) (h : ∀ k ∈ l, k ∈ ACT3) : l.length ≤ 3 := nd.length_le_of_subset (l₂ := ACT3) h
theorem putK_mem {k y : List Str} {l : List (List Str)} : y ∈ Hk.putK k l ↔ y = k ∨ y ∈ l := by
  unfold Hk.putK
  split
  · rename_i h
    exact ⟨.inr, fun z => z.elim (fun e => e ▸ h) id⟩
  · exact List.mem_cons
theorem putK_nd {k : List Str} {l : List (List Str)} (h : l.Nodup) : (Hk.putK k l).Nodup := by
  unfold Hk.putK
  split
  · exact h
  · rename_i z
    exact List.nodup_cons.mpr ⟨z, h⟩
theorem gatherA_ok : ∀ (l : List Fm) (acc : List (List Str)), (∀ x ∈ l, Gx x) → acc.Nodup → (∀ k ∈ acc, k ∈ ACT3) → gatherW tfA mfA (l.map dt) acc = some (actsF l acc)
  | [], acc, _, _, _ => rfl
  | x :: l, acc, hl, nd, ha => by
    have hx := hl x List.mem_cons_self
    rw [List.map_cons]
    unfold gatherW actsF
    rw [tfA_ok]
    cases h : isA x with
    | false => exact gatherA_ok l acc (fun y hy => hl y (List.mem_cons_of_mem _ hy)) nd ha
    | true =>
      have e : (mfA (dt x)).bind wdD = some (actW x) := by
        rw [mfA_ok h]
        obtain ⟨b, s, t, rfl⟩ := isA_act h
        rfl
      dsimp only
      rw [e]
      dsimp only
      rw [if_pos ⟨fun _ => by have := act3_few nd ha; omega, act3_ne (gx_act hx h)⟩]
      rw [if_pos rfl]
      exact gatherA_ok l (Hk.putK (actW x) acc) (fun y hy => hl y (List.mem_cons_of_mem _ hy)) (putK_nd nd) fun k hk => (putK_mem.mp hk).elim (fun z => z ▸ gx_act hx h) (ha k)
theorem acts_mem : ∀ {l : List Fm} {acc : List (List Str)} {k : List Str}, k ∈ actsF l acc ↔ k ∈ acc ∨ ∃ x ∈ l, isA x = true ∧ actW x = k
  | [], acc, k => ⟨.inl, fun h => h.elim id fun ⟨x, h, _⟩ => absurd h List.not_mem_nil⟩
  | x :: l, acc, k => by
    unfold actsF
    rw [acts_mem]
    cases h : isA x with
    | false =>
      rw [if_neg (by decide)]
      constructor
      · rintro (z | ⟨y, h1, h2⟩)
        · exact .inl z
        · exact .inr ⟨y, List.mem_cons_of_mem _ h1, h2⟩
      · rintro (z | ⟨y, h1, h2, h3⟩)
        · exact .inl z
        · rcases List.mem_cons.mp h1 with rfl | h1
          · rw [h] at h2
            cases h2
          · exact .inr ⟨y, h1, h2, h3⟩
    | true =>
      rw [if_pos rfl, putK_mem]
      constructor
      · rintro ((rfl | z) | ⟨y, h1, h2⟩)
        · exact .inr ⟨x, List.mem_cons_self, h, rfl⟩
        · exact .inl z
        · exact .inr ⟨y, List.mem_cons_of_mem _ h1, h2⟩
      · rintro (z | ⟨y, h1, h2, h3⟩)
        · exact .inl (.inr z)
        · rcases List.mem_cons.mp h1 with rfl | h1
          · exact .inl (.inl h3.symm)
          · exact .inr ⟨y, h1, h2, h3⟩
theorem acts_nd : ∀ {l : List Fm} {acc : List (List Str)}, acc.Nodup → (actsF l acc).Nodup
  | [], acc, h => h
  | x :: l, acc, h => by
    unfold actsF
    refine acts_nd (l := l) ?_
    split
    · exact putK_nd h
    · exact h
/-- the acts of a form, ascending -/
def AR (f : Fm) : List (List Str) := sortW (actsF (pre f) [])
theorem acts_ok {f : Fm} (hf : Gx f) (ce : List Ce) : ACTS [.d (sayD f)] ce = some (.c ce.length, ce ++ [.lst ((AR f).map txT)]) := by
  have i1 : itemsM (fldM "Saying" "_signs" (vM 0)) ⟨[some (.d (sayD f)), none], ce⟩ = some ((pre f).map dt, ⟨[some (.d (sayD f)), none], ce⟩) := zv_items (zv_fld (zv_var rfl) zv_seeD (d := sgn f) rfl) zv_fzD rfl
  have e : sortPW 1 tfA mfA (itemsM (fldM "Saying" "_signs" (vM 0))) ⟨[some (.d (sayD f)), none], ce⟩ = some (.c (ce ++ [Ce.dead]).length, ⟨[some (.d (sayD f)), none], (ce ++ [.dead]) ++ [.lst ((AR f).map txT)]⟩) := by
    unfold sortPW
    rw [i1]
    dsimp only
    rw [if_pos (by show 1 < 2; decide), gatherA_ok (pre f) [] hf.pre List.nodup_nil (fun k h => absurd h List.not_mem_nil)]
    rfl
  exact zf_rt (nl := 1) (m := m_Saying_acts) (rs := [.d (sayD f)]) (zk_ret e) (trim_at (by rw [List.length_append]; exact Nat.le_add_right _ _) (get_new _ _) (by rw [List.append_assoc, List.take_left' rfl]))
/-- what the law finds: the acts of all parts, each once, ascending -/
theorem acts_same {f : Fm} (hf : Gx f) : (dedu (((pre f).filter isA).map actW)).length ≤ 3 ∧ sortW (dedu (((pre f).filter isA).map actW)) = AR f := by
  have h3 : ∀ k ∈ ((pre f).filter isA).map actW, k ∈ ACT3 := fun k hk => by
    obtain ⟨x, hx, rfl⟩ := List.mem_map.mp hk
    obtain ⟨h1, h2⟩ := List.mem_filter.mp hx
    exact gx_act (hf.pre x h1) h2
  refine ⟨act3_few (dedu_nd _) fun k hk => h3 k (dedu_mem.mp hk), sortW_same (perm_both (dedu_nd _) (acts_nd List.nodup_nil) fun k => ?_)⟩
  rw [dedu_mem, acts_mem, List.mem_map]
  constructor
  · rintro ⟨x, hx, rfl⟩
    obtain ⟨h1, h2⟩ := List.mem_filter.mp hx
    exact .inr ⟨x, h1, h2, rfl⟩
  · rintro (h | ⟨x, h1, h2, rfl⟩)
    · exact absurd h List.not_mem_nil
    · exact ⟨x, List.mem_filter.mpr ⟨h1, h2⟩, rfl⟩
/-! ### is_boxed, and the law's own way -/
def outN : Fm → List Fm
  | .un b .not f => .un b .not f :: outN f
  | .bi b o f g => .bi b o f g :: (outN f ++ outN g)
  | f => [f]
theorem out_outN : ∀ f : Fm, out f = (outN f).map outH
  | .un b .not f => by
    show outH _ :: out f = outH _ :: (outN f).map outH
    rw [out_outN f]
  | .un b .box f => rfl
  | .bi b o f g => by
    show outH _ :: (out f ++ out g) = outH _ :: (outN f ++ outN g).map outH
    rw [out_outN f, out_outN g, List.map_append]
  | .yes _ => rfl
  | .no _ => rfl
  | .letter _ _ => rfl
  | .act _ _ _ => rfl
def isLA (f : Fm) : Bool := isL f || isA f
/-- a letter or an act stands within no box -/
def opn : Fm → Bool
  | .letter _ _ => true
  | .act _ _ _ => true
  | .un _ .not f => opn f
  | .bi _ _ f g => opn f || opn g
  | _ => false
theorem outN_opn : ∀ f : Fm, ((outN f).all fun x => !isLA x) = !opn f
  | .un b .not f => by
    show ((!isLA (.un b .not f)) && (outN f).all fun x => !isLA x) = !opn f
    rw [outN_opn f]
    rfl
  | .un b .box f => rfl
  | .bi b o f g => by
    show ((!isLA (.bi b o f g)) && (outN f ++ outN g).all fun x => !isLA x) = !(opn f || opn g)
    rw [List.all_append, outN_opn f, outN_opn g]
    show (!opn f && !opn g) = !(opn f || opn g)
    cases opn f <;> cases opn g <;> rfl
  | .yes _ => rfl
  | .no _ => rfl
  | .letter _ _ => rfl
  | .act _ _ _ => rfl
theorem outN_len : ∀ f : Fm, (outN f).length ≤ (pre f).length
  | .un b .not f => Nat.succ_le_succ (outN_len f)
  | .un b .box f => Nat.succ_le_succ (Nat.zero_le _)
  | .bi b o f g => by
    show (outN f ++ outN g).length + 1 ≤ (pre f ++ pre g).length + 1
    rw [List.length_append, List.length_append]
    have := outN_len f
    have := outN_len g
    omega
  | .yes _ => Nat.le_refl _
  | .no _ => Nat.le_refl _
  | .letter _ _ => Nat.le_refl _
  | .act _ _ _ => Nat.le_refl _
theorem bls_map : ∀ bs : List Bool, blsD (bs.map Dt.bl) = some bs
  | [] => rfl
  | b :: bs => by
    show (blsD (bs.map Dt.bl)).map (b :: ·) = _
    rw [bls_map bs]
    rfl
theorem all_bl {α : Type} (l : List α) (p : α → Bool) : allD (.lst (l.map fun x => Dt.bl (p x))) = some (.bl (l.all p)) := by
  have : l.map (fun x => Dt.bl (p x)) = (l.map p).map Dt.bl := by rw [List.map_map]; rfl
  show (blsD (l.map fun x => Dt.bl (p x))).map _ = _
  rw [this, bls_map]
  show some (Dt.bl ((l.map p).all fun b => b)) = _
  rw [List.all_map]
  rfl
theorem any_bl {α : Type} (l : List α) (p : α → Bool) : anyD (.lst (l.map fun x => Dt.bl (p x))) = some (.bl (l.any p)) := by
  have : l.map (fun x => Dt.bl (p x)) = (l.map p).map Dt.bl := by rw [List.map_map]; rfl
  show (blsD (l.map fun x => Dt.bl (p x))).map _ = _
  rw [this, bls_map]
  show some (Dt.bl ((l.map p).any fun b => b)) = _
  rw [List.any_map]
  rfl
abbrev BOXED : Fn := f_Saying_is_boxed OUTL
def laW (neg : Bool) (m : M Vl) : M Vl := Hk.bindM m fun x => Hk.bindM (tupM (consM (retM (.d (.str "letter"))) (consM (retM (.d (.str "act"))) (retM [])))) (op2 (inF neg) x)
theorem laW_ok {neg : Bool} {m : M Vl} {E : En} {x : Fm} (h : m E = some (.d (.str (hw x)), E)) : laW neg m E = some (.d (.bl (if neg then !isLA x else isLA x)), E) := by
  have e : inF neg (.str (hw x)) (.tup [.str "letter", .str "act"]) = some (.bl (if neg then !isLA x else isLA x)) := by
    cases neg <;> cases x with
    | un b u f => cases u <;> rfl
    | bi b o f g => cases o <;> rfl
    | _ => rfl
  exact zv_bind h (zv_bind (zv_tup (zv_cons zv_ret (zv_cons zv_ret zv_ret)) (by show 2 ≤ 100000; decide) (zv_fzA1 zv_fzD (zv_fzA1 zv_fzD zv_fzA0))) (zv_op2 zv_seeD zv_seeD e))
theorem bd_is : m_Saying_is_boxed OUTL = retS (Hk.bindM (consM (compM [1, 2] (itemsM (callM OUTL (consM (fzV (fldM "Saying" "_form" (vM 0))) (retM [])))) (tupG [(nameG 1), (nameG 2)]) (retM true) (laW true (vM 1))) (retM [])) (fn1 allD)) := rfl
theorem boxed_ok {f : Fm} (hf : Gx f) (hl : (pre f).length ≤ 60) (ce : List Ce) : BOXED [.d (sayD f)] ce = some (.d (.bl (!opn f)), ce) := by
  have call : callM OUTL (consM (fzV (fldM "Saying" "_form" (vM 0))) (retM [])) ⟨[some (.d (sayD f)), none, none], ce⟩ = some (.c ce.length, ⟨[some (.d (sayD f)), none, none], ce ++ [.lst (out f)]⟩) := zv_call (G := OUTL) (zv_cons (zv_fzV (zv_fld (zv_var rfl) zv_seeD (d := dt f) rfl) zv_fzD) zv_ret) (outline_ok hf.1.ws (by omega) ce)
  have fz := zv_fzC (k := ce.length) (xs := out f) (sl := [some (.d (sayD f)), none, none]) (ce := ce ++ [.lst (out f)]) (get_new _ _)
  rw [set_new] at fz
  have it := zv_items call fz rfl
  rw [out_outN f] at it
  have hlen := outN_len f
  obtain ⟨gs, _, e⟩ := comp_map2 (v := 1) (w := 2) (t := retM true) (m := laW true (vM 1)) (ce := ce ++ [Ce.dead]) (sl := [some (.d (sayD f)), none, none]) (fun _ => True) True.intro (outN f) (fun x => .str (hw x)) (fun x => match isT x with
    | true => txD x
    | false => .str "") (fun _ => true) (fun x => .bl (!isLA x)) it (by show 1 < 3; decide) (by show 2 < 3; decide) (by decide) (by omega) fun x hx c gs _ => ⟨gs, True.intro, rfl, fun _ => ⟨_, _, gs, True.intro, laW_ok (neg := true) (zv_var rfl), zv_fzD⟩⟩
  rw [List.filter_eq_self.mpr fun _ _ => rfl] at e
  have fin : fn1 allD [.c (ce ++ [Ce.dead]).length] ⟨[some (.d (sayD f)), none, none], (ce ++ [.dead]) ++ [.lst ((outN f).map fun x => Dt.bl (!isLA x))] ++ gs⟩ = some (.d (.bl (!opn f)), ⟨[some (.d (sayD f)), none, none], (ce ++ [.dead]) ++ [.lst ((outN f).map fun x => Dt.bl (!isLA x))] ++ gs⟩) := zv_fn1 (zv_seeC (get_mid _ _ _)) (by rw [all_bl, outN_opn])
  refine zf_rt (nl := 2) (m := m_Saying_is_boxed OUTL) (rs := [.d (sayD f)]) (r := .d (.bl (!opn f))) (E := ⟨[some (.d (sayD f)), none, none], (ce ++ [.dead]) ++ [.lst ((outN f).map fun x => Dt.bl (!isLA x))] ++ gs⟩) ?_ (trim_d ?_)
  · rw [bd_is]
    exact zk_ret (zv_bind (zv_cons e zv_ret) fin)
  · rw [List.append_assoc, List.append_assoc, List.take_left' rfl]
abbrev LOPN : Nat → Fn := f__law_open INN
def opH : M Vl := Hk.bindM (vM 0) fun x => Hk.bindM (retM (.d (.int 0))) (ixF x)
def opC (G : Fn) : M Vl := compM [1] (itemsM (callM INN (consM (fzV (vM 0)) (retM [])))) (nameG 1) (retM true) (callM G (consM (fzV (vM 1)) (retM [])))
theorem op_is (G : Fn) : m__law_open INN G = seqS (ifS (Hk.bindM (laW false opH) boolM) (retS (retM (.d (.bl true)))) nilS)
    (retS (andV (Hk.bindM opH fun x => Hk.bindM (retM (.d (.str "box"))) (op2 neF x)) (Hk.bindM (consM (opC G) (retM [])) (fn1 anyD)))) := rfl
theorem opn_subs {f : Fm} (h1 : isLA f = false) (h2 : isX f = false) : opn f = (subs f).any opn := by
  cases f with
  | un b u f =>
    cases u with
    | not => show opn f = (opn f || false); rw [Bool.or_false]
    | box => cases h2
  | bi b o f g => show (opn f || opn g) = (opn f || (opn g || false)); rw [Bool.or_false]
  | letter b s => cases h1
  | act b s t => cases h1
  | _ => rfl
theorem open_ok : ∀ (n : Nat) (f : Fm), (pre f).length ≤ n → ∀ ce : List Ce, LOPN n [.d (dt f)] ce = some (.d (.bl (opn f)), ce)
  | 0, f, h, _ => by
    have := pre_pos f
    omega
  | n + 1, f, h, ce => by
    have hp := pre_subs f
    have hlen : (pre f).length = ((subs f).flatMap pre).length + 1 := by rw [hp, List.length_cons]
    have hsub : ∀ g ∈ subs f, ∀ ce, LOPN n [.d (dt g)] ce = some (.d (.bl (opn g)), ce) := fun g hg ce => by
      have hle : (pre g).length ≤ ((subs f).flatMap pre).length := by
        cases f with
        | un b u f => simp only [subs, List.mem_singleton] at hg; subst hg; simp [subs]
        | bi b o f k =>
          simp only [subs, List.mem_cons, List.not_mem_nil, or_false] at hg
          rcases hg with rfl | rfl <;> simp [subs]
        | _ => exact absurd hg List.not_mem_nil
      exact open_ok n g (by omega) ce
    have hH : ∀ D, opH ⟨[some (.d (dt f)), none], D⟩ = some (.d (.str (hw f)), ⟨[some (.d (dt f)), none], D⟩) := fun D => zv_bind (zv_var rfl) (zv_bind zv_ret (zv_ix zv_seeD zv_seeD (dt0 f)))
    have t1 : Hk.bindM (laW false opH) boolM ⟨[some (.d (dt f)), none], ce⟩ = some (isLA f, ⟨[some (.d (dt f)), none], ce⟩) := zv_bind (laW_ok (neg := false) (hH ce)) zv_bool
    cases h1 : isLA f with
    | true =>
      rw [h1] at t1
      have ho : opn f = true := by
        cases f with
        | letter b s => rfl
        | act b s t => rfl
        | _ => cases h1
      refine zf_rt (E := ⟨[some (.d (dt f)), none], ce⟩) (r := .d (.bl true)) ?_ (by rw [ho]; exact trim_d List.take_length)
      show m__law_open INN (LOPN n) ⟨[some (.d (dt f)), none], ce⟩ = _
      rw [op_is]
      exact zk_seq (zk_ifT t1 rfl (zk_ret zv_ret)) zk_rt
    | false =>
      rw [h1] at t1
      have ne : neF (.str (hw f)) (.str "box") = some (.bl (!isX f)) := by
        have := eX (f := f)
        unfold eqF at this
        unfold neF
        obtain ⟨b, e1, e2⟩ := Option.map_eq_some_iff.mp this
        cases e2
        rw [e1]
        rfl
      have t2 : Hk.bindM (Hk.bindM opH fun x => Hk.bindM (retM (.d (.str "box"))) (op2 neF x)) boolM ⟨[some (.d (dt f)), none], ce⟩ = some (!isX f, ⟨[some (.d (dt f)), none], ce⟩) := zv_bind (zv_bind (hH ce) (zv_bind zv_ret (zv_op2 zv_seeD zv_seeD ne))) zv_bool
      have run : ∀ {C : List Ce}, C.take ce.length = ce → andV (Hk.bindM opH fun x => Hk.bindM (retM (.d (.str "box"))) (op2 neF x)) (Hk.bindM (consM (opC (LOPN n)) (retM [])) (fn1 anyD)) ⟨[some (.d (dt f)), none], ce⟩ = some (.d (.bl (opn f)), ⟨[some (.d (dt f)), none], C⟩) → LOPN (n + 1) [.d (dt f)] ce = some (.d (.bl (opn f)), ce) := fun {C} hC e => by
        refine zf_rt (E := ⟨[some (.d (dt f)), none], C⟩) (r := .d (.bl (opn f))) ?_ (trim_d hC)
        show m__law_open INN (LOPN n) ⟨[some (.d (dt f)), none], ce⟩ = _
        rw [op_is]
        exact zk_seq (zk_ifF t1 rfl zk_nil) (zk_nx (zk_ret e))
      cases h2 : isX f with
      | true =>
        rw [h2] at t2
        have ho : opn f = false := by
          obtain ⟨b, e⟩ := isX_box h2
          rw [e]
          rfl
        refine run (C := ce) List.take_length ?_
        rw [ho]
        exact zv_andV t2 zv_bl
      | false =>
        rw [h2] at t2
        have it : itemsM (callM INN (consM (fzV (vM 0)) (retM []))) ⟨[some (.d (dt f)), none], ce⟩ = some ((subs f).map dt, ⟨[some (.d (dt f)), none], ce⟩) := zv_items (zv_call (zv_cons (zv_fzV (zv_var rfl) zv_fzD) zv_ret) (inn_ok f _)) zv_fzD rfl
        obtain ⟨gs, e⟩ := comp_all (v := 1) (m := callM (LOPN n) (consM (fzV (vM 1)) (retM []))) (subs f) dt (fun x => .bl (opn x)) it (by show 1 < 2; decide) (by cases f <;> simp [subs]) fun g hg c gs => ⟨_, _, gs, zv_call (zv_cons (zv_fzV (zv_var rfl) zv_fzD) zv_ret) (hsub g hg _), zv_fzD⟩
        have fin : fn1 anyD [.c ce.length] ⟨[some (.d (dt f)), none], ce ++ [.lst ((subs f).map fun x => Dt.bl (opn x))] ++ gs⟩ = some (.d (.bl (opn f)), ⟨[some (.d (dt f)), none], ce ++ [.lst ((subs f).map fun x => Dt.bl (opn x))] ++ gs⟩) := zv_fn1 (zv_seeC (get_mid _ _ _)) (by rw [any_bl, opn_subs h1 h2])
        exact run (by rw [List.append_assoc, List.take_left' rfl]) (zv_andV t2 (zv_bind (zv_cons e zv_ret) fin))
/-- saying.text() -/
abbrev TEXT : Fn := f_Saying_text TEXTS
theorem text_ok {ce : List Ce} {x : Vl} {f : Fm} (hs : Say ce x f) (hw : Ws f) (hl : (pre f).length ≤ 1000) : TEXT [x] ce = some (.d (txD f), ce) := by
  have h1 : fzV (fldM "Saying" "_signs" (vM 0)) ⟨[some x], ce⟩ = some (.d (.lst ((pre f).map dt)), ⟨[some x], ce⟩) := zv_fzV (zv_fld (zv_var rfl) hs (d := sgn f) rfl) zv_fzD
  have h2 := texts_ok hw hl ce
  have h3 : callM TEXTS (consM (fzV (fldM "Saying" "_signs" (vM 0))) (retM [])) ⟨[some x], ce⟩ = some (.c ce.length, ⟨[some x], ce ++ [.lst ((pre f).map txD)]⟩) := zv_call (G := TEXTS) (zv_cons h1 zv_ret) h2
  have h4 : ixD (.lst ((pre f).map txD)) (.int 0) = some (txD f) := by
    show atI ((pre f).map txD) ((0 : Nat) : Int) = some (txD f)
    exact atI_nat (by cases f <;> rfl)
  refine zf_rt (nl := 0) (m := m_Saying_text TEXTS) (E := ⟨[some x], ce ++ [.lst ((pre f).map txD)]⟩) (r := .d (txD f)) (zk_ret (zv_bind h3 (zv_bind zv_ret (zv_ix (zv_seeC (get_new _ _)) zv_seeD h4)))) (trim_d ?_)
  exact List.take_left
/-! ### what the law finds by itself -/
theorem fz_new2 {sl : List (Option Vl)} {X : List Ce} {a : Ce} {L : List Dt} : fzM (.c (X.length + 1)) ⟨sl, X ++ [a, Ce.lst L]⟩ = some (.lst L, ⟨sl.map (Option.map (frzV (X.length + 1) (.lst L))), X ++ [a, .dead]⟩) := by
  have h := zv_fzC (k := X.length + 1) (xs := L) (sl := sl) (ce := X ++ [a, Ce.lst L]) (by simp)
  rw [h]
  have : (X ++ [a, Ce.lst L]).set (X.length + 1) .dead = X ++ [a, .dead] := by simp
  rw [this]
theorem strsD_map : ∀ l : List Str, strsD (l.map .str) = some l
  | [] => rfl
  | s :: l => by
    show (strsD (l.map .str)).map (s :: ·) = _
    rw [strsD_map l]
    rfl
theorem txsT_map : ∀ ls : List (List Str), txsT (ls.map txT) = some ls
  | [] => rfl
  | l :: ls => by
    show (match strsD (l.map .str), txsT (ls.map txT) with | some l, some r => some (l :: r) | _, _ => none) = _
    rw [strsD_map l, txsT_map ls]
theorem zv_sortSW {m : M Vl} {E : En} {r : Vl} {sl : List (Option Vl)} {ce : List Ce} {ls : List (List Str)} (h : m E = some (r, ⟨sl, ce⟩)) (hs : see ce r = some (.lst (ls.map txT))) (hl : (dedu ls).length ≤ 4) (hn : ∀ l ∈ ls, l ≠ []) : sortSWM m E = some (.c (ce.length + 1), ⟨sl, ce ++ [.dead, .lst ((sortW (dedu ls)).map txT)]⟩) := by
  unfold sortSWM
  have e : (lstS ce r).bind txsT = some ls := by
    unfold lstS
    rw [hs]
    exact txsT_map ls
  rw [h]
  simp only [e, if_pos (And.intro hl hn)]
  exact newL_at (L := [Ce.dead])
def ptT (w : Str) : M Bool := Hk.bindM (Hk.bindM (Hk.bindM (vM 11) fun x => Hk.bindM (retM (.d (.int 0))) (ixF x)) fun x => Hk.bindM (retM (.d (.str w))) (op2 eqF x)) boolM
def leV : M Vl := Hk.bindM (vM 11) fun x => Hk.bindM (retM (.d (.int 1))) (ixF x)
def acV : M Vl := Hk.bindM (vM 11) fun x => Hk.bindM (partM (retM (.d (.int 1)))) fun l => Hk.bindM (retM none) fun h => slF x l h
def teV : M Vl := callM (LT 60) (consM (fzV (vM 11)) (retM []))
def leM : M Vl := fzV (sortSM (compM [11] (itemsM (vM 5)) (nameG 11) (ptT "letter") leV))
def acM : M Vl := fzV (sortSWM (compM [11] (itemsM (vM 5)) (nameG 11) (ptT "act") acV))
def teM : M Vl := fzV (sortSM (compM [11] (itemsM (vM 5)) (nameG 11) (ptT "box") teV))
section
variable {sl : List (Option Vl)} {ce : List Ce} {f : Fm}
theorem ptT_ok {w : Str} {p : Fm → Bool} (hw : ∀ x : Fm, eqF (.str (hw x)) (.str w) = some (.bl (p x))) {a : Fm} (h : sl[11]? = some (some (.d (dt a)))) : ptT w ⟨sl, ce⟩ = some (p a, ⟨sl, ce⟩) :=
  zv_bind (zv_bind (zv_bind (zv_var h) (zv_bind zv_ret (zv_ix zv_seeD zv_seeD (dt0 a)))) (zv_bind zv_ret (zv_op2 zv_seeD zv_seeD (hw a)))) zv_bool
theorem set11 {d : Dt} (h11 : 11 < sl.length) : (sl.set 11 (some (.d d)))[11]? = some (some (Vl.d d)) := by rw [List.getElem?_set, if_pos rfl, if_pos h11]
theorem it5 (h5 : sl[5]? = some (some (.d (.lst ((pre f).map dt))))) : itemsM (vM 5) ⟨sl, ce⟩ = some ((pre f).map dt, ⟨sl, ce⟩) := zv_items (zv_var h5) zv_fzD rfl
theorem le_ok (hl : (pre f).length ≤ 50) (h5 : sl[5]? = some (some (.d (.lst ((pre f).map dt))))) (h11 : 11 < sl.length) : ∃ k d D, leM ⟨sl, ce⟩ = some (.d (.lst ((LR f).map .str)), ⟨sl.map (Option.map (frzV k d)), ce ++ D⟩) := by
  obtain ⟨gs, e⟩ := comp_map (t := ptT "letter") (m := leV) (pre f) dt isL (fun x => .str (lnm x)) (it5 (ce := ce) h5) h11 (by omega) fun a ha c gs => by
    refine ⟨gs, ptT_ok eqw_letter (set11 h11), fun hL => ⟨.d (.str (lnm a)), _, gs, ?_, zv_fzD⟩⟩
    refine zv_bind (zv_var (set11 h11)) (zv_bind zv_ret (zv_ix zv_seeD zv_seeD ?_))
    cases a with
    | letter b s => rfl
    | yes _ => cases hL
    | no _ => cases hL
    | act _ _ _ => cases hL
    | un _ _ _ => cases hL
    | bi _ _ _ _ => cases hL
  have hks : ((pre f).filter isL).map (fun x => Dt.str (lnm x)) = (((pre f).filter isL).map lnm).map .str := by rw [List.map_map]; rfl
  rw [hks] at e
  have hlen : (((pre f).filter isL).map lnm).length < 60 := by
    rw [List.length_map]
    have := List.length_filter_le isL (pre f)
    omega
  have s := zv_sortS e (zv_seeC (get_mid _ _ _)) hlen
  have hsame : setS1 (((pre f).filter isL).map lnm) = LR f := setS1_same (lets_nd List.nodup_nil) fun x => by
    rw [lets_mem, List.mem_map]
    constructor
    · rintro (h | ⟨b, h⟩)
      · exact absurd h List.not_mem_nil
      · exact ⟨.letter b x, List.mem_filter.mpr ⟨h, rfl⟩, rfl⟩
    · rintro ⟨y, hy, rfl⟩
      obtain ⟨h1, h2⟩ := List.mem_filter.mp hy
      cases y with
      | letter b s => exact .inr ⟨b, h1⟩
      | yes _ => cases h2
      | no _ => cases h2
      | act _ _ _ => cases h2
      | un _ _ _ => cases h2
      | bi _ _ _ _ => cases h2
  rw [hsame] at s
  have r := zv_fzV s fz_new2
  simp only [List.append_assoc] at r
  unfold leM
  exact ⟨_, _, _, r⟩
theorem te_ok (hf : Gx f) (hl : (pre f).length ≤ 50) (h5 : sl[5]? = some (some (.d (.lst ((pre f).map dt))))) (h11 : 11 < sl.length) : ∃ k d D, teM ⟨sl, ce⟩ = some (.d (.lst ((setS1 ((BX f).map tx)).map .str)), ⟨sl.map (Option.map (frzV k d)), ce ++ D⟩) := by
  obtain ⟨gs, e⟩ := comp_map (t := ptT "box") (m := teV) (pre f) dt isX (fun x => .str (tx x)) (it5 (ce := ce) h5) h11 (by omega) fun a ha c gs => by
    refine ⟨gs, ptT_ok (fun x => eX) (set11 h11), fun hL => ⟨.d (.str (tx a)), _, gs, ?_, zv_fzD⟩⟩
    have hp := pre_small f a ha
    exact zv_call (G := LT 60) (zv_cons (zv_fzV (zv_var (set11 h11)) zv_fzD) zv_ret) (lt_ok 60 a (hf.pre a ha).1.ws (by omega) (by omega) _)
  have hks : ((pre f).filter isX).map (fun x => Dt.str (tx x)) = ((BX f).map tx).map .str := by rw [List.map_map]; rfl
  rw [hks] at e
  have hlen : ((BX f).map tx).length < 60 := by
    rw [List.length_map]
    have : (BX f).length ≤ (pre f).length := List.length_filter_le isX (pre f)
    omega
  have s := zv_sortS e (zv_seeC (get_mid _ _ _)) hlen
  have r := zv_fzV s fz_new2
  simp only [List.append_assoc] at r
  unfold teM
  exact ⟨_, _, _, r⟩
theorem ac_ok (hf : Gx f) (hl : (pre f).length ≤ 50) (h5 : sl[5]? = some (some (.d (.lst ((pre f).map dt))))) (h11 : 11 < sl.length) : ∃ k d D, acM ⟨sl, ce⟩ = some (.d (.lst ((AR f).map txT)), ⟨sl.map (Option.map (frzV k d)), ce ++ D⟩) := by
  obtain ⟨gs, e⟩ := comp_map (t := ptT "act") (m := acV) (pre f) dt isA (fun x => txT (actW x)) (it5 (ce := ce) h5) h11 (by omega) fun a ha c gs => by
    refine ⟨gs, ptT_ok (fun x => eA rfl) (set11 h11), fun hA => ⟨.d (txT (actW a)), _, gs, ?_, zv_fzD⟩⟩
    refine zv_bind (zv_var (set11 h11)) (zv_bind (zv_part zv_ret) (zv_bind zv_ret ?_))
    obtain ⟨b, s, t, rfl⟩ := isA_act hA
    have e := zv_slT (E := ⟨sl.set 11 (some (.d (dt (.act b s t)))), ce ++ [c] ++ gs⟩) (x := .d (dt (.act b s t))) (xs := [.str "act", .str s, .str t]) (lo := some 1) (hi := none) rfl
    rw [show cutD [Dt.str "act", .str s, .str t] (some 1) none = [.str s, .str t] from cut_drop _ 1 (by show 1 ≤ 3; decide)] at e
    exact e
  have hks : ((pre f).filter isA).map (fun x => txT (actW x)) = (((pre f).filter isA).map actW).map txT := by rw [List.map_map]; rfl
  rw [hks] at e
  obtain ⟨h3, hs⟩ := acts_same hf
  have s := zv_sortSW e (zv_seeC (get_mid _ _ _)) (by omega) fun l hl2 => by
    obtain ⟨x, hx, rfl⟩ := List.mem_map.mp hl2
    obtain ⟨h1, h2⟩ := List.mem_filter.mp hx
    exact act3_ne (gx_act (hf.pre x h1) h2)
  rw [hs] at s
  have r := zv_fzV s fz_new2
  simp only [List.append_assoc] at r
  unfold acM
  exact ⟨_, _, _, r⟩
end
/-! ### equal lists -/
theorem strOk_mk {l : List Nat} (h : ∀ c ∈ l, c < 1000) : PyData.strOk (mkS l) = true := by
  show l.toArray.all (fun c => decide (c < 0x110000)) = true
  simp only [List.all_toArray, List.all_eq_true, decide_eq_true_eq]
  intro c hc
  have := h c hc
  omega
theorem tl_chars : ∀ {f : Fm}, Gx f → ∀ c ∈ tl f, c < 1000 := fun {f} => by
  induction f with
  | un b u f ih =>
    intro h c hc
    rcases List.mem_cons.mp (show c ∈ u.c :: tl f from hc) with rfl | hc
    · cases u <;> decide
    · exact ih ⟨h.1, h.2.2⟩ c hc
  | bi b o f g ihf ihg =>
    intro h c hc
    have hc : c ∈ 40 :: (tl f ++ o.m ++ tl g ++ [41]) := hc
    simp only [List.mem_cons, List.mem_append, List.not_mem_nil, or_false, Bi.m] at hc
    rcases hc with rfl | ((hc | rfl | rfl | rfl) | hc) | rfl
    · decide
    · exact ihf ⟨h.1.1, h.2.2.1⟩ c hc
    · decide
    · cases o <;> decide
    · decide
    · exact ihg ⟨h.1.2, h.2.2.2⟩ c hc
    · decide
  | _ =>
    intro h c hc
    rcases leaf_of h.1 h.2 rfl with e | e | e | e | e | e | e | e <;> rw [e] at hc <;> simp only [tl_yes, tl_no, tl_p, tl_q, tl_word, tl_a1, tl_a2, tl_a3, List.mem_cons, List.not_mem_nil, or_false] at hc <;> omega
theorem tx_str {f : Fm} (h : Gx f) : PyData.strOk (tx f) = true := strOk_mk (tl_chars h)
theorem eqd_wds {ls : List (List Str)} (h : ∀ l ∈ ls, ∀ k ∈ l, PyData.strOk k = true) : eqd (.lst (ls.map txT)) (.lst (ls.map txT)) = some true := by
  have a1 : ∀ l : List Str, toPA (l.map .str) = some (l.map .str) := fun l => by
    induction l with
    | nil => rfl
    | cons f fs ih => simp only [List.map_cons, toPA, toP, ih]
  have a2 : ∀ l : List Str, PyData.eqvAll (l.map .str) (l.map .str) = true := fun l => by
    induction l with
    | nil => rfl
    | cons f fs ih => simp [PyData.eqvAll, PyData.eqv, ih]
  have a3 : ∀ l : List Str, (∀ k ∈ l, PyData.strOk k = true) → PyData.canLayAll0 (l.map .str) = true := fun l hl => by
    induction l with
    | nil => rfl
    | cons f fs ih => simp [PyData.canLayAll0, PyData.canLay0, hl f List.mem_cons_self, ih fun g hg => hl g (List.mem_cons_of_mem _ hg)]
  have a4 : ∀ l : List Str, PyData.depthAll (l.map .str) ≤ 1 := fun l => by
    induction l with
    | nil => exact Nat.zero_le _
    | cons f fs ih =>
      simp only [List.map_cons, PyData.depthAll, PyData.depth]
      omega
  have e1 : toPA (ls.map txT) = some (ls.map fun l => PyData.tuple (l.map .str)) := by
    clear h
    induction ls with
    | nil => rfl
    | cons l ls ih =>
      have : toP (txT l) = some (.tuple (l.map .str)) := by
        unfold txT
        rw [toP, a1 l]
        rfl
      simp only [List.map_cons, toPA, this, ih]
  have e2 : PyData.eqvAll (ls.map fun l => PyData.tuple (l.map .str)) (ls.map fun l => PyData.tuple (l.map .str)) = true := by
    clear h e1
    induction ls with
    | nil => rfl
    | cons l ls ih => simp [PyData.eqvAll, PyData.eqv, a2 l, ih]
  have e3 : PyData.canLayAll0 (ls.map fun l => PyData.tuple (l.map .str)) = true := by
    clear e1 e2
    induction ls with
    | nil => rfl
    | cons l ls ih => simp [PyData.canLayAll0, PyData.canLay0, a3 l (h l List.mem_cons_self), ih fun g hg => h g (List.mem_cons_of_mem _ hg)]
  have e4 : PyData.depthAll (ls.map fun l => PyData.tuple (l.map .str)) ≤ 3 := by
    clear e1 e2 e3 h
    induction ls with
    | nil => exact Nat.zero_le _
    | cons l ls ih =>
      simp only [List.map_cons, PyData.depthAll, PyData.depth]
      have := a4 l
      omega
  have et : toP (.lst (ls.map txT)) = some (.list (ls.map fun l => PyData.tuple (l.map .str))) := by
    rw [toP, e1]
    rfl
  unfold eqd
  rw [et]
  show (if _ then _ else _) = _
  rw [if_pos ⟨sh_lst e3 (by omega), sh_lst e3 (by omega)⟩]
  simp only [PyData.eqv, e2]
theorem act3_str {l : List Str} (h : l ∈ ACT3) : ∀ k ∈ l, PyData.strOk k = true := by
  have hm : PyData.strOk "me" = true := by decide +kernel
  have hh : PyData.strOk "him" = true := by decide +kernel
  have ha : PyData.strOk "abe" = true := by decide +kernel
  intro k hk
  rcases List.mem_cons.mp h with rfl | h
  · rcases List.mem_cons.mp hk with rfl | hk
    · exact hm
    · rw [List.mem_singleton.mp hk]; exact hh
  rcases List.mem_cons.mp h with rfl | h
  · rcases List.mem_cons.mp hk with rfl | hk
    · exact hh
    · rw [List.mem_singleton.mp hk]; exact hm
  rw [List.mem_singleton.mp h] at hk
  rcases List.mem_cons.mp hk with rfl | hk
  · exact hh
  · rw [List.mem_singleton.mp hk]; exact ha
theorem AR_in {f : Fm} (hf : Gx f) : ∀ k ∈ AR f, k ∈ ACT3 := fun k hk => by
  unfold AR at hk
  rw [(sortW_perm _).mem_iff, acts_mem] at hk
  rcases hk with h | ⟨x, h1, h2, rfl⟩
  · exact absurd h List.not_mem_nil
  · exact gx_act (hf.pre x h1) h2
theorem eqL {f : Fm} (hf : Gx f) : eqd (.lst ((LR f).map .str)) (.lst ((LR f).map .str)) = some true := eqd_txts fun k hk => (LR_lx hf hk).ok
theorem eqA {f : Fm} (hf : Gx f) : eqd (.lst ((AR f).map txT)) (.lst ((AR f).map txT)) = some true := eqd_wds fun l hl => act3_str (AR_in hf l hl)
theorem eqT {Bs : List Fm} (h : ∀ x ∈ Bs, Gx x) : eqd (.lst ((Bs.map tx).map .str)) (.lst ((Bs.map tx).map .str)) = some true := eqd_txts fun k hk => by
  obtain ⟨x, hx, rfl⟩ := List.mem_map.mp hk
  exact tx_str (h x hx)
/-! ### a list of lists -/
theorem leaves_dat : ∀ ds : List Dt, leaves (datT ds) = some ds
  | [] => rfl
  | d :: ds => by
    show (leaves (datT ds)).map (d :: ·) = _
    rw [leaves_dat ds]
    rfl
theorem sub_at' {ts : List Tr} {i : Nat} {u : Tr} (hi : ts[i]? = some u) : subT (.lst ts) [i] = some u := by
  show (match ts[i]? with | some u => subT u [] | none => none) = _
  rw [hi]
  rfl
theorem node_h {ce : List Ce} {N i : Nat} {ts : List Tr} {u : Tr} (h : ce[N]? = some (.tr (.lst ts))) (hi : ts[i]? = some u) {G : List Ce} : nodeT (ce ++ [Ce.sub N [i]] ++ G) ce.length = some (N, [i], u) := by
  have lt := (List.getElem?_eq_some_iff.mp h).1
  refine node_sub (get_mid _ _ _) lt (t := .lst ts) ?_ (sub_at' hi)
  rw [List.append_assoc, List.getElem?_append_left lt]
  exact h
theorem see_h {ce : List Ce} {N i : Nat} {ts : List Tr} {ds : List Dt} (h : ce[N]? = some (.tr (.lst ts))) (hi : ts[i]? = some (.lst (datT ds))) {G : List Ce} : see (ce ++ [Ce.sub N [i]] ++ G) (.c ce.length) = some (.lst ds) := by
  show (match ((ce ++ [Ce.sub N [i]] ++ G)[ce.length]?).bind dataC with
    | some d => some d
    | none => seeN (ce ++ [Ce.sub N [i]] ++ G) ce.length) = _
  rw [get_mid]
  show seeN (ce ++ [Ce.sub N [i]] ++ G) ce.length = _
  unfold seeN
  rw [node_h h hi]
  show (leaves (datT ds)).map Dt.lst = _
  rw [leaves_dat]
  rfl
def ixM (i : Int) : M Vl := Hk.bindM (vM 10) fun x => Hk.bindM (retM (.d (.int i))) (ixTF x)
theorem ixh_ok {sl : List (Option Vl)} {ce : List Ce} {N i : Nat} {ts : List Tr} {u : Tr} (h10 : sl[10]? = some (some (.c N))) (h : ce[N]? = some (.tr (.lst ts))) (hi : ts[i]? = some u) (hu : u.node = true) : ixM i ⟨sl, ce⟩ = some (.c ce.length, ⟨sl, ce ++ [Ce.sub N [i]]⟩) := by
  refine zv_bind (zv_var h10) (zv_bind zv_ret ?_)
  have hx : ixN ts.length (i : Int) = some i := by
    have lt := (List.getElem?_eq_some_iff.mp hi).1
    unfold ixN
    split
    · split
      · simp
      · omega
    · omega
  show (match nodeT ce N with
    | some (_, _, .lst ts) => match ixN ts.length (i : Int) with
      | some p => kidE N p ⟨sl, ce⟩
      | none => none
    | _ => none) = _
  rw [node_tr h rfl]
  dsimp only
  rw [hx]
  exact kid_h (s := .lst ts) (node_tr h rfl) hi hu
theorem putR1 {ts : List Tr} {i : Nat} {u s : Tr} (hi : ts[i]? = some u) : putR (.lst ts) [i] s = .lst (ts.set i s) := by
  show (match ts[i]? with
    | some u => withK (.lst ts) (ts.set i (putR u [] s))
    | none => .lst ts) = _
  rw [hi]
  rfl
theorem bm_h {sl : List (Option Vl)} {ce : List Ce} {N i : Nat} {ts : List Tr} {ds : List Dt} {ma : M (List Vl)} {F : Vl → List Vl → M Vl} {rs : List Vl} {z : Vl} {E2 : En} (h10 : sl[10]? = some (some (.c N))) (h : ce[N]? = some (.tr (.lst ts))) (hi : ts[i]? = some (.lst (datT ds)))
    (ha : ma ⟨sl, ce ++ [Ce.sub N [i]]⟩ = some (rs, ⟨sl, ce ++ [Ce.sub N [i]]⟩)) (hF : F (.c ce.length) rs ⟨sl, ce ++ [Ce.sub N [i]]⟩ = some (z, E2)) : bmM "list" (ixM i) ma F ⟨sl, ce⟩ = some (z, E2) := by
  refine zv_bind (ixh_ok h10 h hi rfl) ?_
  have e := see_h (G := []) h hi
  rw [List.append_nil] at e
  show (match see (ce ++ [Ce.sub N [i]]) (.c ce.length) with
    | some d => if tyB "list" d = true then (Hk.bindM ma fun xs => F (.c ce.length) xs) ⟨sl, ce ++ [Ce.sub N [i]]⟩ else none
    | none => none) = _
  rw [e]
  exact zv_bind ha hF
theorem set_N {ce : List Ce} {N i : Nat} {ts : List Tr} (h : ce[N]? = some (.tr (.lst ts))) (c : Ce) : ((ce ++ [Ce.sub N [i]]).set N c)[N]? = some c := by
  have lt := (List.getElem?_eq_some_iff.mp h).1
  rw [List.getElem?_set, if_pos rfl, if_pos (by rw [List.length_append]; omega)]
theorem app_h {sl : List (Option Vl)} {ce : List Ce} {N i : Nat} {ts : List Tr} {ds : List Dt} {d : Dt} {ma : M (List Vl)} (h10 : sl[10]? = some (some (.c N))) (h : ce[N]? = some (.tr (.lst ts))) (hi : ts[i]? = some (.lst (datT ds))) (hn : ds.length < 90000)
    (ha : ma ⟨sl, ce ++ [Ce.sub N [i]]⟩ = some ([.d d], ⟨sl, ce ++ [Ce.sub N [i]]⟩)) : ∃ ce', bmM "list" (ixM i) ma appTF ⟨sl, ce⟩ = some (.d .non, ⟨sl, ce'⟩) ∧ ce'[N]? = some (.tr (.lst (ts.set i (.lst (datT (ds ++ [d])))))) := by
  have lt := (List.getElem?_eq_some_iff.mp h).1
  refine ⟨(ce ++ [Ce.sub N [i]]).set N (.tr (.lst (ts.set i (.lst (datT (ds ++ [d])))))), bm_h h10 h hi ha ?_, set_N h _⟩
  unfold appTF
  refine zv_bind zv_fzD ?_
  have e := node_h (G := []) h hi
  rw [List.append_nil] at e
  show (match nodeT (ce ++ [Ce.sub N [i]]) ce.length with
    | some (k, π, .lst ts) => if ts.length < 100000 then match (ce ++ [Ce.sub N [i]])[k]? with
      | some (.tr t) => some (Vl.d .non, (⟨sl, (ce ++ [Ce.sub N [i]]).set k (.tr (putR t π (.lst (ts ++ [Tr.dat d]))))⟩ : En))
      | _ => none
      else none
    | _ => none) = _
  rw [e]
  dsimp only
  rw [if_pos (by unfold datT; rw [List.length_map]; omega), List.getElem?_append_left lt, h]
  dsimp only
  rw [putR1 hi]
  unfold datT
  rw [List.map_append]
  rfl
theorem clr_h {sl : List (Option Vl)} {ce : List Ce} {N i : Nat} {ts : List Tr} {ds : List Dt} (h10 : sl[10]? = some (some (.c N))) (h : ce[N]? = some (.tr (.lst ts))) (hi : ts[i]? = some (.lst (datT ds))) :
    ∃ ce', bmM "list" (ixM i) (retM []) clrTF ⟨sl, ce⟩ = some (.d .non, ⟨sl, ce'⟩) ∧ ce'[N]? = some (.tr (.lst (ts.set i (.lst [])))) := by
  have lt := (List.getElem?_eq_some_iff.mp h).1
  refine ⟨(ce ++ [Ce.sub N [i]]).set N (.tr (.lst (ts.set i (.lst [])))), bm_h h10 h hi zv_ret ?_, set_N h _⟩
  have e := node_h (G := []) h hi
  rw [List.append_nil] at e
  show (match nodeT (ce ++ [Ce.sub N [i]]) ce.length with
    | some (k, π, .lst ts) => if (leaves ts).isSome = true then match (ce ++ [Ce.sub N [i]])[k]? with
      | some (.tr t) => some (Vl.d .non, (⟨sl, (ce ++ [Ce.sub N [i]]).set k (.tr (putR t π (.lst [])))⟩ : En))
      | _ => none
      else none
    | _ => none) = _
  rw [e]
  dsimp only
  rw [leaves_dat, show (some ds).isSome = true from rfl, if_pos rfl, List.getElem?_append_left lt, h]
  dsimp only
  rw [putR1 hi]
/-! ### the law's questions, twice -/
def agA : M Vl := lstTM (consM (methM "Saying" "letters" LETS (vM 4) (retM [])) (consM (methM "Saying" "acts" ACTS (vM 4) (retM [])) (consM (methM "Saying" "boxes" BOX (vM 4) (retM [])) (retM []))))
def agT0 : M Bool := Hk.bindM (Hk.bindM (ixM 0) fun x => Hk.bindM (vM 6) (op2 neF x)) boolM
def agT1 : M Bool := Hk.bindM (Hk.bindM (ixM 1) fun x => Hk.bindM (vM 7) (op2 neF x)) boolM
def agC : M Vl := compSM [12] (ixM 2) (nameG 12) (retM true) (methM "Saying" "text" TEXT (vM 12) (retM []))
def agT2 : M Bool := Hk.bindM (Hk.bindM agC fun x => Hk.bindM (vM 8) (op2 neF x)) boolM
def agT : M Bool := Hk.orM agT0 (Hk.orM agT1 agT2)
def ag1 : M Vl := bmM "list" (ixM 0) (consM (retM (.d (.str "z"))) (retM [])) appTF
def ag2 : M Vl := bmM "list" (ixM 1) (retM []) clrTF
def ag3 : M Vl := bmM "list" (ixM 2) (consM (vM 4) (retM [])) appTF
def agS : En → Option Rs :=
  (seqS (setS 10 agA)
  (seqS (ifS agT (retS (retM (.d (.bl false)))) nilS)
  (seqS (dropS ag1)
  (seqS (dropS ag2)
  (dropS ag3)))))
/-- what a turn knows -/
def kS (S t : Dt) (f : Fm) (y2 y9 y10 y11 y12 : Option Vl) : List (Option Vl) := [some (.d S), some (.d t), y2, some (.d (dt f)), some (.d (sayD f)), some (.d (.lst ((pre f).map dt))), some (.d (.lst ((LR f).map .str))), some (.d (.lst ((AR f).map txT))), some (.d (.lst ((setS1 ((BX f).map tx)).map .str))), y9, y10, y11, y12]
theorem take3 {C : List Ce} {a b d : List Dt} : takeL [.c (C.length + 0), .c (C.length + 1), .c (C.length + 2)] (C ++ [Ce.lst a, Ce.lst b, Ce.lst d]) = some ([.lst (datT a), .lst (datT b), .lst (datT d)], C ++ [.dead, .dead, .dead]) := by
  simp [takeL, takeV]
theorem agA_ok {f : Fm} (hf : Gx f) (hl : (pre f).length ≤ 16) {sl : List (Option Vl)} {C : List Ce} (h4 : sl[4]? = some (some (.d (sayD f)))) : ∃ Bs : List Fm, agA ⟨sl, C⟩ = some (.c (C ++ [Ce.dead, .dead, .dead]).length, ⟨sl, C ++ [.dead, .dead, .dead] ++ [.tr (.lst [.lst (datT ((LR f).map .str)), .lst (datT ((AR f).map txT)), .lst (datT (Bs.map sayD))])]⟩) ∧
    Bs.Nodup ∧ (∀ x, x ∈ Bs ↔ x ∈ BX f) ∧ Bs.map tx = setS1 ((BX f).map tx) := by
  have e1 := lets_ok (f := f) (by omega) C
  have e2 := acts_ok hf (C ++ [.lst (frL f)])
  obtain ⟨Bs, e3, b1, b2, b3⟩ := box_ok hf (by omega) (C ++ [.lst (frL f)] ++ [.lst ((AR f).map txT)])
  refine ⟨Bs, ?_, b1, b2, b3⟩
  have m1 : methM "Saying" "letters" LETS (vM 4) (retM []) ⟨sl, C⟩ = some (.c C.length, ⟨sl, C ++ [.lst (frL f)]⟩) := zv_meth (zv_var h4) zv_seeD rfl zv_ret e1
  have m2 : methM "Saying" "acts" ACTS (vM 4) (retM []) ⟨sl, C ++ [.lst (frL f)]⟩ = some (.c (C ++ [Ce.lst (frL f)]).length, ⟨sl, C ++ [.lst (frL f)] ++ [.lst ((AR f).map txT)]⟩) := zv_meth (zv_var h4) zv_seeD rfl zv_ret e2
  have m3 : methM "Saying" "boxes" BOX (vM 4) (retM []) ⟨sl, C ++ [.lst (frL f)] ++ [.lst ((AR f).map txT)]⟩ = some (.c (C ++ [Ce.lst (frL f)] ++ [Ce.lst ((AR f).map txT)]).length, ⟨sl, C ++ [.lst (frL f)] ++ [.lst ((AR f).map txT)] ++ [.lst (Bs.map sayD)]⟩) := zv_meth (zv_var h4) zv_seeD rfl zv_ret e3
  have l1 : (C ++ [Ce.lst (frL f)]).length = C.length + 1 := by simp
  have l2 : (C ++ [Ce.lst (frL f)] ++ [Ce.lst ((AR f).map txT)]).length = C.length + 2 := by simp
  have l3 : C ++ [Ce.lst (frL f)] ++ [Ce.lst ((AR f).map txT)] ++ [Ce.lst (Bs.map sayD)] = C ++ [Ce.lst (frL f), .lst ((AR f).map txT), .lst (Bs.map sayD)] := by simp
  rw [l2, l3] at m3
  rw [l1] at m2
  unfold agA lstTM
  refine zv_bind (zv_cons m1 (zv_cons m2 (zv_cons m3 zv_ret))) ?_
  rw [if_pos (by show 3 ≤ 100000; decide)]
  have t := take3 (C := C) (a := frL f) (b := (AR f).map txT) (d := Bs.map sayD)
  dsimp only
  rw [show ([Vl.c C.length, Vl.c (C.length + 1), Vl.c (C.length + 2)] : List Vl) = [Vl.c (C.length + 0), Vl.c (C.length + 1), Vl.c (C.length + 2)] from rfl, t]
  rfl
theorem at_app {ce G : List Ce} {N : Nat} {c : Ce} (h : ce[N]? = some c) : (ce ++ G)[N]? = some c := by
  rw [List.getElem?_append_left (List.getElem?_eq_some_iff.mp h).1]
  exact h
theorem ne_ok {sl : List (Option Vl)} {ce : List Ce} {N i j : Nat} {ts : List Tr} {ds : List Dt} (h10 : sl[10]? = some (some (.c N))) (h : ce[N]? = some (.tr (.lst ts))) (hi : ts[i]? = some (.lst (datT ds))) (hj : sl[j]? = some (some (.d (.lst ds)))) (he : eqd (.lst ds) (.lst ds) = some true) :
    Hk.bindM (Hk.bindM (ixM i) fun x => Hk.bindM (vM j) (op2 neF x)) boolM ⟨sl, ce⟩ = some (false, ⟨sl, ce ++ [.sub N [i]]⟩) := by
  have e := see_h (G := []) h hi
  rw [List.append_nil] at e
  exact zv_bind (zv_bind (ixh_ok h10 h hi rfl) (zv_bind (zv_var hj) (zv_op2 e zv_seeD (zw_ne (k := true) he)))) zv_bool
theorem agC_ok {Bs : List Fm} (hB : ∀ x ∈ Bs, Gx x ∧ (pre x).length ≤ 16) (hn : Bs.length < 90000) {sl : List (Option Vl)} {ce : List Ce} {N : Nat} {ts : List Tr} (h10 : sl[10]? = some (some (.c N))) (h12 : 12 < sl.length) (h : ce[N]? = some (.tr (.lst ts))) (hi : ts[2]? = some (.lst (datT (Bs.map sayD)))) :
    ∃ gs, agC ⟨sl, ce⟩ = some (.c (ce ++ [Ce.sub N [2]]).length, ⟨sl, ce ++ [.sub N [2]] ++ [.lst (Bs.map txD)] ++ gs⟩) :=
  compS_all (v := 12) (s := ce.length) (m := methM "Saying" "text" TEXT (vM 12) (retM [])) Bs sayD txD (ixh_ok h10 h hi rfl) (fun gs => by
    unfold lstS
    rw [see_h h hi]
    rfl) h12 hn fun x hx c gs => ⟨_, _, gs, zv_meth (zv_var (by rw [List.getElem?_set, if_pos rfl, if_pos h12]; rfl)) zv_seeD rfl zv_ret (text_ok zv_seeD (hB x hx).1.1.ws (by have := (hB x hx).2; omega)), zv_fzD⟩
theorem again_ok {f : Fm} (hf : Gx f) (hl : (pre f).length ≤ 16) {S t : Dt} {y2 y9 y10 y11 y12 : Option Vl} {C : List Ce} : ∃ z10 C', agS ⟨kS S t f y2 y9 y10 y11 y12, C⟩ = some (.nx ⟨kS S t f y2 y9 z10 y11 y12, C'⟩) := by
  obtain ⟨Bs, e1, b1, b2, b3⟩ := agA_ok hf hl (sl := kS S t f y2 y9 y10 y11 y12) (C := C) rfl
  have s1 := zk_set (i := 10) e1
  have hN : (C ++ [Ce.dead, .dead, .dead] ++ [Ce.tr (.lst [.lst (datT ((LR f).map .str)), .lst (datT ((AR f).map txT)), .lst (datT (Bs.map sayD))])])[(C ++ [Ce.dead, .dead, .dead]).length]? = some (.tr (.lst [.lst (datT ((LR f).map .str)), .lst (datT ((AR f).map txT)), .lst (datT (Bs.map sayD))])) := get_new _ _
  generalize (C ++ [Ce.dead, .dead, .dead]).length = N at s1 hN
  generalize C ++ [Ce.dead, .dead, .dead] ++ [Ce.tr (.lst [.lst (datT ((LR f).map .str)), .lst (datT ((AR f).map txT)), .lst (datT (Bs.map sayD))])] = ce at s1 hN
  rw [show (kS S t f y2 y9 y10 y11 y12).set 10 (some (.c N)) = kS S t f y2 y9 (some (.c N)) y11 y12 from rfl] at s1
  have hB : ∀ x ∈ Bs, Gx x ∧ (pre x).length ≤ 16 := fun x hx => by
    have h1 := (List.mem_filter.mp ((b2 x).mp hx)).1
    exact ⟨hf.pre x h1, Nat.le_trans (pre_small f x h1) hl⟩
  have hn : Bs.length ≤ 16 := Nat.le_trans (b1.length_le_of_subset (l₂ := pre f) fun x hx => (List.mem_filter.mp ((b2 x).mp hx)).1) hl
  have t0 : agT0 ⟨kS S t f y2 y9 (some (.c N)) y11 y12, ce⟩ = some (false, ⟨kS S t f y2 y9 (some (.c N)) y11 y12, ce ++ [.sub N [0]]⟩) := ne_ok (i := 0) (j := 6) rfl hN rfl rfl (eqL hf)
  have h1 := at_app (G := [Ce.sub N [0]]) hN
  have t1 : agT1 ⟨kS S t f y2 y9 (some (.c N)) y11 y12, ce ++ [.sub N [0]]⟩ = some (false, ⟨kS S t f y2 y9 (some (.c N)) y11 y12, ce ++ [.sub N [0]] ++ [.sub N [1]]⟩) := ne_ok (i := 1) (j := 7) rfl h1 rfl rfl (eqA hf)
  have h2 := at_app (G := [Ce.sub N [1]]) h1
  generalize ce ++ [.sub N [0]] ++ [.sub N [1]] = ce2 at t1 h2
  obtain ⟨gs, ec⟩ := agC_ok hB (by omega) (sl := kS S t f y2 y9 (some (.c N)) y11 y12) rfl (by show 12 < 13; decide) h2 rfl
  have hx : Bs.map txD = (setS1 ((BX f).map tx)).map .str := by rw [← b3, List.map_map]; rfl
  have he := eqT fun x hx => (hB x hx).1
  rw [b3] at he
  have t2 : agT2 ⟨kS S t f y2 y9 (some (.c N)) y11 y12, ce2⟩ = some (false, ⟨kS S t f y2 y9 (some (.c N)) y11 y12, ce2 ++ [.sub N [2]] ++ [.lst (Bs.map txD)] ++ gs⟩) := zv_bind (zv_bind ec (zv_bind (zv_var rfl) (zv_op2 (zv_seeC (get_mid _ _ _)) zv_seeD (by rw [hx]; exact zw_ne (k := true) he)))) zv_bool
  have h3 := at_app (G := [.lst (Bs.map txD)] ++ gs) (at_app (G := [Ce.sub N [2]]) h2)
  rw [← List.append_assoc] at h3
  generalize ce2 ++ [.sub N [2]] ++ [.lst (Bs.map txD)] ++ gs = ce3 at t2 h3
  have tt : agT ⟨kS S t f y2 y9 (some (.c N)) y11 y12, ce⟩ = some (false, ⟨kS S t f y2 y9 (some (.c N)) y11 y12, ce3⟩) := zv_orF t0 rfl (zv_orF t1 rfl t2)
  obtain ⟨ce4, a1, h4⟩ := app_h (sl := kS S t f y2 y9 (some (.c N)) y11 y12) (i := 0) (d := .str "z") (ma := consM (retM (.d (.str "z"))) (retM [])) rfl h3 rfl (by rw [List.length_map]; have := LR_len hf; omega) (zv_cons zv_ret zv_ret)
  obtain ⟨ce5, a2, h5⟩ := clr_h (sl := kS S t f y2 y9 (some (.c N)) y11 y12) (i := 1) (ds := (AR f).map txT) rfl h4 rfl
  obtain ⟨ce6, a3, h6⟩ := app_h (sl := kS S t f y2 y9 (some (.c N)) y11 y12) (i := 2) (d := sayD f) (ds := Bs.map sayD) (ma := consM (vM 4) (retM [])) rfl h5 rfl (by rw [List.length_map]; omega) (zv_cons (zv_var rfl) zv_ret)
  exact ⟨_, _, zk_seq s1 (zk_nx (zk_seq (zk_ifF tt rfl zk_nil) (zk_nx (zk_seq (zk_drop a1) (zk_nx (zk_seq (zk_drop a2) (zk_nx (zk_drop a3))))))))⟩
/-! ### the turn, the law -/
abbrev F20 : Fn := FREE 20
abbrev ATF : Fn := f__law_atoms
def tpM (s t : Str) : M Vl := tupM (consM (retM (.d (.str s))) (consM (retM (.d (.str t))) (retM [])))
def tp3M (s t u : Str) : M Vl := tupM (consM (retM (.d (.str s))) (consM (retM (.d (.str t))) (consM (retM (.d (.str u))) (retM []))))
theorem tp_ok {s t : Str} {E : En} : tpM s t E = some (.d (.tup [.str s, .str t]), E) := zv_tup (zv_cons zv_ret (zv_cons zv_ret zv_ret)) (by show 2 ≤ 100000; decide) (zv_fzA1 zv_fzD (zv_fzA1 zv_fzD zv_fzA0))
theorem tp3_ok {s t u : Str} {E : En} : tp3M s t u E = some (.d (.tup [.str s, .str t, .str u]), E) := zv_tup (zv_cons zv_ret (zv_cons zv_ret (zv_cons zv_ret zv_ret))) (by show 3 ≤ 100000; decide) (zv_fzA1 zv_fzD (zv_fzA1 zv_fzD (zv_fzA1 zv_fzD zv_fzA0)))
def ATOMS : List Fm := [.letter false "p", .letter false "q", .letter false "word", .act false "me" "him"]
def MORE : List Fm := [.act false "him" "me", .act false "him" "abe"]
def at1 : M Vl := lstM (consM (tpM "letter" "p") (consM (tpM "letter" "q") (consM (tpM "letter" "word") (consM (tp3M "act" "me" "him") (retM [])))))
def at2 : M Vl := lstM (consM (tp3M "act" "him" "me") (consM (tp3M "act" "him" "abe") (retM [])))
theorem at_is : m__law_atoms = seqS (setS 0 at1) (retS (Hk.bindM (vM 0) fun x => Hk.bindM at2 (addF x))) := rfl
theorem atoms_ok (ce : List Ce) : ATF [] ce = some (.c ce.length, ce ++ [.lst ((ATOMS ++ MORE).map gd)]) := by
  have a1 : at1 ⟨[none], ce⟩ = some (.c ce.length, ⟨[none], ce ++ [.lst (ATOMS.map gd)]⟩) := zv_lst (zv_cons tp_ok (zv_cons tp_ok (zv_cons tp_ok (zv_cons tp3_ok zv_ret)))) (by show 4 ≤ 100000; decide) (zv_fzA1 zv_fzD (zv_fzA1 zv_fzD (zv_fzA1 zv_fzD (zv_fzA1 zv_fzD zv_fzA0)))) zv_newL
  have s1 := zk_set (i := 0) a1
  have a2 : at2 ⟨[some (.c ce.length)], ce ++ [.lst (ATOMS.map gd)]⟩ = some (.c (ce ++ [Ce.lst (ATOMS.map gd)]).length, ⟨[some (.c ce.length)], ce ++ [.lst (ATOMS.map gd)] ++ [.lst (MORE.map gd)]⟩) := zv_lst (zv_cons tp3_ok (zv_cons tp3_ok zv_ret)) (by show 2 ≤ 100000; decide) (zv_fzA1 zv_fzD (zv_fzA1 zv_fzD zv_fzA0)) zv_newL
  have a3 : (Hk.bindM (vM 0) fun x => Hk.bindM at2 (addF x)) ⟨[some (.c ce.length)], ce ++ [.lst (ATOMS.map gd)]⟩ = some (.c (ce ++ [Ce.lst (ATOMS.map gd)] ++ [Ce.lst (MORE.map gd)]).length, ⟨[some (.c ce.length)], ce ++ [.lst (ATOMS.map gd)] ++ [.lst (MORE.map gd)] ++ [.lst (ATOMS.map gd ++ MORE.map gd)]⟩) := zv_bind (zv_var rfl) (zv_bind a2 (zv_addL (zv_seeC (get_mid _ _ _)) (zv_seeC (get_new _ _)) (by show 4 + 2 ≤ 100000; decide) zv_newL))
  rw [List.map_append]
  refine zf_rt (nl := 1) (m := m__law_atoms) (rs := []) (E := ⟨[some (.c ce.length)], ce ++ [.lst (ATOMS.map gd)] ++ [.lst (MORE.map gd)] ++ [.lst (ATOMS.map gd ++ MORE.map gd)]⟩) (r := .c (ce ++ [Ce.lst (ATOMS.map gd)] ++ [Ce.lst (MORE.map gd)]).length) ?_ (trim_at (by simp) (get_new _ _) (by rw [List.append_assoc, List.append_assoc, List.take_left' rfl]))
  rw [at_is]
  exact zk_seq s1 (zk_nx (zk_ret a3))
theorem atoms_at : AtOk ((ATOMS ++ MORE).map gd) := by
  refine ⟨by decide, by decide, fun x hx => ?_⟩
  obtain ⟨f, hf, rfl⟩ := List.mem_map.mp hx
  refine ⟨f, rfl, ?_⟩
  simp only [ATOMS, MORE, List.cons_append, List.nil_append, List.mem_cons, List.not_mem_nil, or_false] at hf
  rcases hf with rfl | rfl | rfl | rfl | rfl | rfl
  · exact ⟨rfl, .inl rfl, rfl⟩
  · exact ⟨rfl, .inr (.inl rfl), rfl⟩
  · exact ⟨rfl, .inr (.inr rfl), rfl⟩
  · exact ⟨rfl, .inl ⟨rfl, rfl⟩, rfl⟩
  · exact ⟨rfl, .inr (.inl ⟨rfl, rfl⟩), rfl⟩
  · exact ⟨rfl, .inr (.inr ⟨rfl, rfl⟩), rfl⟩
def tn2 : M Vl := callM f__law_stream (consM (fzV (vM 0)) (consM (fzV (vM 1)) (retM [])))
def tn3 : M Vl := callM F20 (consM (vM 2) (consM (fzV (callM ATF (retM []))) (consM (retM (.d (.int 16))) (retM []))))
def tn4 : M (List Vl) := consM (fzV (makeM "Saying" INIT (consM (fzV (vM 3)) (retM [])))) (consM (fzV (callM (LALL 60) (consM (fzV (vM 3)) (retM [])))) (retM []))
def tnT : M Bool := Hk.bindM (Hk.bindM (methM "Saying" "is_boxed" BOXED (vM 4) (retM [])) fun x => Hk.bindM (callM (LOPN 60) (consM (fzV (vM 3)) (retM []))) (op2 eqF x)) boolM
def tnE : En → Option Rs := ifS tnT (retS (retM (.d (.bl false)))) nilS
def tnL : En → Option Rs := forS (rng1M (consM (retM (.d (.int 2))) (retM []))) (nameG 9) agS
def tnS : En → Option Rs :=
    (seqS (setS 2 tn2)
    (seqS (setS 3 tn3)
    (seqS (set2S 4 5 tn4)
    (seqS (setS 6 leM)
    (seqS (setS 7 acM)
    (seqS (setS 8 teM)
    (seqS tnL tnE)))))))
theorem law_is : m_law f__law_stream F20 ATF (LALL 60) INIT (LT 60) BOX ACTS LETS TEXT BOXED (LOPN 60) = (seqS (forS (rng1M (consM (retM (.d (.int 8))) (retM []))) (nameG 1) tnS) (retS (retM (.d (.bl true))))) := rfl
theorem free16 : FrOk F20 16 := free_ok 20 16 (by decide) (by decide) (by decide)
theorem begin_ok (ns : List Int) {i : Nat} (hi : i < 8) {x2 x3 x4 x5 x6 x7 x8 x9 x10 x11 x12 : Option Vl} {ce : List Ce} {S : Dt} (hS : Dt.sq (ns.map .int) = S) {R : Rs} {n : En → Option Rs}
    (go : ∀ (f : Fm) (y2 y6 y7 y8 y9 y10 y11 y12 : Option Vl) (C : List Ce), Gx f → (pre f).length ≤ 16 → ∃ E2, n ⟨[some (.d S), some (.d (.int (i : Int))), y2, some (.d (dt f)), some (.d (sayD f)), some (.d (.lst ((pre f).map dt))), y6, y7, y8, y9, y10, y11, y12], C⟩ = some (.nx E2) ∧ ∃ z : List (Option Vl), z.length = 12 ∧ E2.sl = some (.d S) :: z) :
    ∃ E2, seqS (setS 2 tn2) (seqS (setS 3 tn3) (seqS (set2S 4 5 tn4) n)) ⟨[some (.d S), some (.d (.int (i : Int))), x2, x3, x4, x5, x6, x7, x8, x9, x10, x11, x12], ce⟩ = some (.nx E2) ∧ ∃ z : List (Option Vl), z.length = 12 ∧ E2.sl = some (.d S) :: z := by
  obtain ⟨xs, e1, st⟩ := stream_ok ns i ce (by omega)
  rw [hS] at e1
  have s2 : setS 2 tn2 ⟨[some (.d S), some (.d (.int (i : Int))), x2, x3, x4, x5, x6, x7, x8, x9, x10, x11, x12], ce⟩ = some (.nx ⟨[some (.d S), some (.d (.int (i : Int))), some (.c ce.length), x3, x4, x5, x6, x7, x8, x9, x10, x11, x12], ce ++ [.lst xs]⟩) :=
    zk_set (zv_call (zv_cons (zv_fzV (zv_var rfl) zv_fzD) (zv_cons (zv_fzV (zv_var rfl) zv_fzD) zv_ret)) e1)
  have c1 : callM ATF (retM []) ⟨[some (.d S), some (.d (.int (i : Int))), some (.c ce.length), x3, x4, x5, x6, x7, x8, x9, x10, x11, x12], ce ++ [.lst xs]⟩ = some (.c (ce ++ [Ce.lst xs]).length, ⟨[some (.d S), some (.d (.int (i : Int))), some (.c ce.length), x3, x4, x5, x6, x7, x8, x9, x10, x11, x12], ce ++ [.lst xs] ++ [.lst ((ATOMS ++ MORE).map gd)]⟩) := zv_call (G := ATF) zv_ret (atoms_ok _)
  have c2 := zv_fzC (sl := [some (.d S), some (.d (.int (i : Int))), some (.c ce.length), x3, x4, x5, x6, x7, x8, x9, x10, x11, x12]) (get_new (ce ++ [Ce.lst xs]) (Ce.lst ((ATOMS ++ MORE).map gd)))
  rw [set_new] at c2
  have c3 := zv_fzV c1 c2
  obtain ⟨f, ys, e2, hy, hp, hw, hl⟩ := free16 0 ce.length xs ((ATOMS ++ MORE).map gd) (ce ++ [.lst xs] ++ [.dead]) st (get_mid _ _ _) atoms_at (by decide)
  rw [Pl.eq hp] at e2
  have s3 := zk_set (i := 3) (show tn3 ⟨[some (.d S), some (.d (.int (i : Int))), some (.c ce.length), x3, x4, x5, x6, x7, x8, x9, x10, x11, x12], ce ++ [.lst xs]⟩ = _ from zv_call (G := F20) (zv_cons (zv_var rfl) (zv_cons c3 (zv_cons zv_ret zv_ret))) e2)
  generalize (ce ++ [Ce.lst xs] ++ [Ce.dead]).set ce.length (Ce.lst ys) = X at s3
  generalize hF : Option.map (frzV (ce ++ [Ce.lst xs]).length (Dt.lst ((ATOMS ++ MORE).map gd))) = F at s3
  have s3' : setS 3 tn3 ⟨[some (.d S), some (.d (.int (i : Int))), some (.c ce.length), x3, x4, x5, x6, x7, x8, x9, x10, x11, x12], ce ++ [.lst xs]⟩ = some (.nx ⟨[some (.d S), some (.d (.int (i : Int))), F (some (.c ce.length)), some (.d (dt f)), F x4, F x5, F x6, F x7, F x8, F x9, F x10, F x11, F x12], X⟩) := by
    rw [s3]
    show some (Rs.nx ⟨[F (some (.d S)), F (some (.d (.int (i : Int)))), F (some (.c ce.length)), some (.d (dt f)), F x4, F x5, F x6, F x7, F x8, F x9, F x10, F x11, F x12], X⟩) = _
    rw [← hF]
    rfl
  clear s3
  generalize F (some (.c ce.length)) = y2 at s3'
  generalize F x4 = y4 at s3'
  generalize F x5 = y5 at s3'
  generalize F x6 = y6 at s3'
  generalize F x7 = y7 at s3'
  generalize F x8 = y8 at s3'
  generalize F x9 = y9 at s3'
  generalize F x10 = y10 at s3'
  generalize F x11 = y11 at s3'
  generalize F x12 = y12 at s3'
  have d1 : (consM (fzV (vM 3)) (retM [])) ⟨[some (.d S), some (.d (.int (i : Int))), y2, some (.d (dt f)), y4, y5, y6, y7, y8, y9, y10, y11, y12], X⟩ = some ([.d (gd f)], ⟨[some (.d S), some (.d (.int (i : Int))), y2, some (.d (dt f)), y4, y5, y6, y7, y8, y9, y10, y11, y12], X⟩) := by
    rw [Pl.eq hp]
    exact zv_cons (zv_fzV (zv_var rfl) zv_fzD) zv_ret
  have d2 := make_ok hw.wf (by omega) d1
  have d3 := zv_fzX (sl := [some (.d S), some (.d (.int (i : Int))), y2, some (.d (dt f)), y4, y5, y6, y7, y8, y9, y10, y11, y12]) (d := sayD f) (get_new X (sayC f)) rfl
  rw [set_new] at d3
  have d4 := zv_fzV d2 d3
  generalize hG : Option.map (frzV X.length (sayD f)) = G at d4
  have d4' : fzV (makeM "Saying" INIT (consM (fzV (vM 3)) (retM []))) ⟨[some (.d S), some (.d (.int (i : Int))), y2, some (.d (dt f)), y4, y5, y6, y7, y8, y9, y10, y11, y12], X⟩ = some (.d (sayD f), ⟨[some (.d S), some (.d (.int (i : Int))), G y2, some (.d (dt f)), G y4, G y5, G y6, G y7, G y8, G y9, G y10, G y11, G y12], X ++ [.dead]⟩) := by
    rw [d4]
    show some (Vl.d (sayD f), (⟨[G (some (.d S)), G (some (.d (.int (i : Int)))), G y2, G (some (.d (dt f))), G y4, G y5, G y6, G y7, G y8, G y9, G y10, G y11, G y12], X ++ [.dead]⟩ : En)) = _
    rw [← hG]
    rfl
  clear d4
  generalize G y2 = z2 at d4'
  generalize G y4 = z4 at d4'
  generalize G y5 = z5 at d4'
  generalize G y6 = z6 at d4'
  generalize G y7 = z7 at d4'
  generalize G y8 = z8 at d4'
  generalize G y9 = z9 at d4'
  generalize G y10 = z10 at d4'
  generalize G y11 = z11 at d4'
  generalize G y12 = z12 at d4'
  generalize X ++ [Ce.dead] = Y at d4'
  have b1 : callM (LALL 60) (consM (fzV (vM 3)) (retM [])) ⟨[some (.d S), some (.d (.int (i : Int))), z2, some (.d (dt f)), z4, z5, z6, z7, z8, z9, z10, z11, z12], Y⟩ = some (.c Y.length, ⟨[some (.d S), some (.d (.int (i : Int))), z2, some (.d (dt f)), z4, z5, z6, z7, z8, z9, z10, z11, z12], Y ++ [Ce.lst ((pre f).map dt)]⟩) := zv_call (zv_cons (zv_fzV (zv_var rfl) zv_fzD) zv_ret) (all_ok 60 f (by omega) (by omega) Y)
  have b2 := zv_fzC (sl := [some (.d S), some (.d (.int (i : Int))), z2, some (.d (dt f)), z4, z5, z6, z7, z8, z9, z10, z11, z12]) (get_new Y (Ce.lst ((pre f).map dt)))
  rw [set_new] at b2
  have b3 := zv_fzV b1 b2
  have s4 := zk_set2 (i := 4) (j := 5) (show tn4 ⟨[some (.d S), some (.d (.int (i : Int))), y2, some (.d (dt f)), y4, y5, y6, y7, y8, y9, y10, y11, y12], X⟩ = _ from zv_cons d4' (zv_cons b3 zv_ret))
  obtain ⟨E2, g1, g2⟩ := go f _ _ _ _ _ _ _ _ (Y ++ [.dead]) ⟨hw, hp⟩ hl
  exact ⟨E2, zk_seq s2 (zk_nx (zk_seq s3' (zk_nx (zk_seq s4 (zk_nx g1))))), g2⟩
theorem rest_ok {f : Fm} (hf : Gx f) (hl : (pre f).length ≤ 16) {S t : Dt} (y2 y6 y7 y8 y9 y10 y11 y12 : Option Vl) (C : List Ce) :
    ∃ E2, seqS (setS 6 leM) (seqS (setS 7 acM) (seqS (setS 8 teM) (seqS tnL tnE))) ⟨[some (.d S), some (.d t), y2, some (.d (dt f)), some (.d (sayD f)), some (.d (.lst ((pre f).map dt))), y6, y7, y8, y9, y10, y11, y12], C⟩ = some (.nx E2) ∧ ∃ z : List (Option Vl), z.length = 12 ∧ E2.sl = some (.d S) :: z := by
  obtain ⟨k, d, D, a1⟩ := le_ok (f := f) (sl := [some (.d S), some (.d t), y2, some (.d (dt f)), some (.d (sayD f)), some (.d (.lst ((pre f).map dt))), y6, y7, y8, y9, y10, y11, y12]) (ce := C) (by omega) rfl (by show 11 < 13; decide)
  have s6 := zk_set (i := 6) a1
  obtain ⟨k2, d2, D2, a2⟩ := ac_ok (f := f) (sl := (([some (.d S), some (.d t), y2, some (.d (dt f)), some (.d (sayD f)), some (.d (.lst ((pre f).map dt))), y6, y7, y8, y9, y10, y11, y12] : List (Option Vl)).map (Option.map (frzV k d))).set 6 (some (.d (.lst ((LR f).map .str))))) (ce := C ++ D) hf (by omega) rfl (by show 11 < 13; decide)
  have s7 := zk_set (i := 7) a2
  obtain ⟨k3, d3, D3, a3⟩ := te_ok (f := f) (sl := (((([some (.d S), some (.d t), y2, some (.d (dt f)), some (.d (sayD f)), some (.d (.lst ((pre f).map dt))), y6, y7, y8, y9, y10, y11, y12] : List (Option Vl)).map (Option.map (frzV k d))).set 6 (some (.d (.lst ((LR f).map .str))))).map (Option.map (frzV k2 d2))).set 7 (some (.d (.lst ((AR f).map txT))))) (ce := C ++ D ++ D2) hf (by omega) rfl (by show 11 < 13; decide)
  have s8 := zk_set (i := 8) a3
  generalize C ++ D ++ D2 ++ D3 = C8 at s8
  have e8 : (((((([some (.d S), some (.d t), y2, some (.d (dt f)), some (.d (sayD f)), some (.d (.lst ((pre f).map dt))), y6, y7, y8, y9, y10, y11, y12] : List (Option Vl)).map (Option.map (frzV k d))).set 6 (some (.d (.lst ((LR f).map .str))))).map (Option.map (frzV k2 d2))).set 7 (some (.d (.lst ((AR f).map txT))))).map (Option.map (frzV k3 d3))).set 8 (some (.d (.lst ((setS1 ((BX f).map tx)).map .str)))) =
      kS S t f (Option.map (frzV k3 d3) (Option.map (frzV k2 d2) (Option.map (frzV k d) y2))) (Option.map (frzV k3 d3) (Option.map (frzV k2 d2) (Option.map (frzV k d) y9))) (Option.map (frzV k3 d3) (Option.map (frzV k2 d2) (Option.map (frzV k d) y10))) (Option.map (frzV k3 d3) (Option.map (frzV k2 d2) (Option.map (frzV k d) y11))) (Option.map (frzV k3 d3) (Option.map (frzV k2 d2) (Option.map (frzV k d) y12))) := rfl
  rw [e8] at s8
  generalize Option.map (frzV k3 d3) (Option.map (frzV k2 d2) (Option.map (frzV k d) y2)) = w2 at s8
  generalize Option.map (frzV k3 d3) (Option.map (frzV k2 d2) (Option.map (frzV k d) y9)) = w9 at s8
  generalize Option.map (frzV k3 d3) (Option.map (frzV k2 d2) (Option.map (frzV k d) y10)) = w10 at s8
  generalize Option.map (frzV k3 d3) (Option.map (frzV k2 d2) (Option.map (frzV k d) y11)) = w11 at s8
  generalize Option.map (frzV k3 d3) (Option.map (frzV k2 d2) (Option.map (frzV k d) y12)) = w12 at s8
  have r2 : rng1M (consM (retM (.d (.int 2))) (retM [])) ⟨kS S t f w2 w9 w10 w11 w12, C8⟩ = some (rngL 0 2, ⟨kS S t f w2 w9 w10 w11 w12, C8⟩) := zv_rng1 (zv_cons zv_ret zv_ret) (by decide)
  obtain ⟨z1, X1, q1⟩ := again_ok hf hl (S := S) (t := t) (y2 := w2) (y9 := some (.d (.int 0))) (y10 := w10) (y11 := w11) (y12 := w12) (C := C8)
  obtain ⟨z2, X2, q2⟩ := again_ok hf hl (S := S) (t := t) (y2 := w2) (y9 := some (.d (.int 1))) (y10 := z1) (y11 := w11) (y12 := w12) (C := X1)
  have lp : tnL ⟨kS S t f w2 w9 w10 w11 w12, C8⟩ = some (.nx ⟨kS S t f w2 (some (.d (.int 1))) z2 w11 w12, X2⟩) := zk_for r2 (fl_cons rfl q1 (fl_cons rfl q2 fl_nil))
  have b1 : methM "Saying" "is_boxed" BOXED (vM 4) (retM []) ⟨kS S t f w2 (some (.d (.int 1))) z2 w11 w12, X2⟩ = some (.d (.bl (!opn f)), ⟨kS S t f w2 (some (.d (.int 1))) z2 w11 w12, X2⟩) := zv_meth (zv_var rfl) zv_seeD rfl zv_ret (boxed_ok hf (by omega) X2)
  have b2 : callM (LOPN 60) (consM (fzV (vM 3)) (retM [])) ⟨kS S t f w2 (some (.d (.int 1))) z2 w11 w12, X2⟩ = some (.d (.bl (opn f)), ⟨kS S t f w2 (some (.d (.int 1))) z2 w11 w12, X2⟩) := zv_call (G := LOPN 60) (zv_cons (zv_fzV (zv_var rfl) zv_fzD) zv_ret) (open_ok 60 f (by omega) X2)
  have hq : eqF (.bl (!opn f)) (.bl (opn f)) = some (.bl false) := by
    refine zw_eq ?_
    rw [zq_bl]
    cases opn f <;> rfl
  have tt : tnT ⟨kS S t f w2 (some (.d (.int 1))) z2 w11 w12, X2⟩ = some (false, ⟨kS S t f w2 (some (.d (.int 1))) z2 w11 w12, X2⟩) := zv_bind (zv_bind b1 (zv_bind b2 (zv_op2 zv_seeD zv_seeD hq))) zv_bool
  exact ⟨_, zk_seq s6 (zk_nx (zk_seq s7 (zk_nx (zk_seq s8 (zk_nx (zk_seq lp (zk_nx (zk_ifF tt rfl zk_nil)))))))), _, rfl, rfl⟩
def TurnP (s : Dt) : Nat → En → Prop := fun _ E => ∃ z : List (Option Vl), z.length = 12 ∧ E.sl = some (.d s) :: z
theorem lturn_ok {ns : List Int} {i : Nat} {E : En} (hi : i < 8) (hP : TurnP (.sq (ns.map .int)) i E) : ∃ E1 E2, nameG 1 (.d (.int (0 + (i : Int)))) E = some E1 ∧ tnS E1 = some (.nx E2) ∧ TurnP (.sq (ns.map .int)) (i + 1) E2 := by
  obtain ⟨sl, ce⟩ := E
  obtain ⟨z, hz, hsl⟩ := hP
  match z, hz with
  | [x1, x2, x3, x4, x5, x6, x7, x8, x9, x10, x11, x12], _ =>
    have hsl : sl = [some (.d (.sq (ns.map .int))), x1, x2, x3, x4, x5, x6, x7, x8, x9, x10, x11, x12] := hsl
    subst hsl
    obtain ⟨E2, e1, e2⟩ := begin_ok ns hi (x2 := x2) (x3 := x3) (x4 := x4) (x5 := x5) (x6 := x6) (x7 := x7) (x8 := x8) (x9 := x9) (x10 := x10) (x11 := x11) (x12 := x12) (ce := ce) rfl (R := .nx ⟨[], []⟩) (n := seqS (setS 6 leM) (seqS (setS 7 acM) (seqS (setS 8 teM) (seqS tnL tnE)))) fun f y2 y6 y7 y8 y9 y10 y11 y12 C hf hl => rest_ok hf hl y2 y6 y7 y8 y9 y10 y11 y12 C
    refine ⟨_, E2, ?_, e1, e2⟩
    rw [show (0 + (i : Int)) = (i : Int) by omega]
    exact zg_name
theorem law_true (ns : List Int) : f_law f__law_stream F20 ATF (LALL 60) INIT (LT 60) BOX ACTS LETS TEXT BOXED (LOPN 60) [.d (.sq (ns.map .int))] [] = some (.d (.bl true), []) := by
  obtain ⟨E2, e1, p⟩ := for_inv (g := nameG 1) (m := tnS) (TurnP (.sq (ns.map .int))) (rngL 0 8) 0 ⟨[some (.d (.sq (ns.map .int))), none, none, none, none, none, none, none, none, none, none, none, none], []⟩ ⟨_, rfl, rfl⟩ fun i d E hd hp => by
    obtain ⟨h1, rfl⟩ := rng_at hd
    rw [Nat.zero_add] at hp ⊢
    exact lturn_ok h1 hp
  have a2 : rng1M (consM (retM (.d (.int 8))) (retM [])) ⟨[some (.d (.sq (ns.map .int))), none, none, none, none, none, none, none, none, none, none, none, none], []⟩ = some (rngL 0 8, ⟨[some (.d (.sq (ns.map .int))), none, none, none, none, none, none, none, none, none, none, none, none], []⟩) := zv_rng1 (zv_cons zv_ret zv_ret) (by decide)
  have h : m_law f__law_stream F20 ATF (LALL 60) INIT (LT 60) BOX ACTS LETS TEXT BOXED (LOPN 60) ⟨[some (.d (.sq (ns.map .int))), none, none, none, none, none, none, none, none, none, none, none, none], []⟩ = some (.rt (.d (.bl true)) E2) := by
    rw [law_is]
    exact zk_seq (zk_for a2 e1) (zk_nx (zk_ret zv_ret))
  obtain ⟨sl2, ce2⟩ := E2
  exact zf_rt (nl := 12) (m := m_law f__law_stream F20 ATF (LALL 60) INIT (LT 60) BOX ACTS LETS TEXT BOXED (LOPN 60)) h (trim_d (List.take_zero ..))
end K06
namespace K06
open PySem PySem.Spec PyProof.Rows L2 Evl Hk LamX NdefX
theorem all_mk {l : PySem.W.OpenLaw} {w : World} {K : PySem.W.Frag} {h : Heap} {mg : Str → Option Value} {fa : Addr} (X : K.In h) (G : h.Ns mainGlobals mg) (hfa : mg "law" = some (.ref fa))
    {f1 f2 f3 f4 f5 f6 f7 f8 f9 f10 f11 f12 f13 f14 f15 f16 f17 f18 f19 f20 f21 f22 f23 f24 f25 f26 f27 f28 e1 x2 x7 x1 x4 x5 x6 : Addr}
    {od1 an1 od2 an2 od3 an3 od4 an4 od5 an5 od6 an6 od7 an7 od8 an8 od9 an9 od10 an10 od11 an11 od12 an12 od13 an13 od14 an14 od15 an15 od16 an16 od17 an17 od18 an18 od19 an19 od20 an20 od21 an21 od22 an22 od23 an23 od24 an24 od25 an25 od26 an26 od27 an27 od28 an28 xd2 xd7 : Option Addr}
    {sl1 sl2 sl3 sl4 sl5 sl6 sl7 sl8 sl9 sl10 sl11 sl12 sl13 sl14 sl15 sl16 sl17 sl18 sl19 sl20 sl21 sl22 sl23 sl24 sl25 sl26 sl27 sl28 xs2 xs7 : Array (Option Value)}
    {oc1 kV1 dc1 pm1 cd1 ct1 oc2 kV2 dc2 pm2 cd2 ct2 oc3 kV3 dc3 pm3 cd3 ct3 oc4 kV4 dc4 pm4 cd4 ct4 oc5 kV5 dc5 pm5 cd5 ct5 oc6 kV6 dc6 pm6 cd6 ct6 oc7 kV7 dc7 pm7 cd7 ct7 oc8 kV8 dc8 pm8 cd8 ct8 oc9 kV9 dc9 pm9 cd9 ct9 oc10 kV10 dc10 pm10 cd10 ct10 oc11 kV11 dc11 pm11 cd11 ct11 oc12 kV12 dc12 pm12 cd12 ct12 oc13 kV13 dc13 pm13 cd13 ct13 oc14 kV14 dc14 pm14 cd14 ct14 oc15 kV15 dc15 pm15 cd15 ct15 oc16 kV16 dc16 pm16 cd16 ct16 oc17 kV17 dc17 pm17 cd17 ct17 oc18 kV18 dc18 pm18 cd18 ct18 oc19 kV19 dc19 pm19 cd19 ct19 oc20 kV20 dc20 pm20 cd20 ct20 oc21 kV21 dc21 pm21 cd21 ct21 oc22 kV22 dc22 pm22 cd22 ct22 oc23 kV23 dc23 pm23 cd23 ct23 oc24 kV24 dc24 pm24 cd24 ct24 oc25 kV25 dc25 pm25 cd25 ct25 oc26 kV26 dc26 pm26 cd26 ct26 oc27 kV27 dc27 pm27 cd27 ct27 oc28 kV28 dc28 pm28 cd28 ct28 : Value}
    {xn2 xn7 xn1 xn4 xn5 xn6 : Nat}
    {es1 es4 es5 es6 : Array DictEntry}
    {t1_0 t1_1 t1_2 t1_3 t1_4 t1_5 t1_6 t1_7 t1_8 t2_0 t2_1 t2_2 t3 t4_0 t4_1 s4_0 s4_1 t5_0 t5_1 t5_2 s5_0 s5_1 s5_2 t6_0 t6_1 t6_2 t6_3 t6_4 t6_5 t6_6 t6_7 t6_8 t7_0 t7_1 t7_2 t7_3 t7_4 t8 : Tok}
    (g1 : PySem.W.nsIn K mainGlobals "Saying" = some (some (.ref e1)))
    (p1_0 : PySem.W.plainGet K e1 Str.empty = true)
    (p1_1 : PySem.W.hasDictIn K e1 = true)
    (p1_2 : PySem.W.plainOver K e1 = true)
    (p1_3 : PySem.W.findIn K (.ref e1) "__setattr__" = some (some (.builtin "object.__setattr__")))
    (p1_4 : PySem.W.findIn K (.ref e1) "__class__" = some (some (.builtin "object.__class__")))
    (p1_5 : PySem.W.specialIn K (.builtin "object.__class__") "__get__" = some (some (.builtin "getset_descriptor.__get__")))
    (p1_6 : PySem.W.takesIn K (.builtin "object.__class__") = some true)
    (p1_7 : PySem.W.mroIn K e1 (.type "object") = some true)
    (p1_8 : PySem.W.selfFirst K e1 = true)
    (p1_9 : PySem.W.makesIn K e1 = true)
    (p1_10 : PySem.W.keepIn K (.ref e1) = true)
    (n1__form : PySem.W.findIn K (.ref e1) "_form" = some none)
    (n1__signs : PySem.W.findIn K (.ref e1) "_signs" = some none)
    (a1 : PySem.W.nsIn K mainGlobals "is_small" = some (some (.ref f1)))
    (l1 : K.lookup f1 = some ⟨oc1, od1, .func (PySem.W.fnOf "is_small" "is_small" (defArgs s_is_small) (defBody s_is_small) (defScope s_is_small) .none kV1 dc1 pm1 an1 cd1 ct1), sl1⟩)
    (c1 : PySem.W.codeIn K cd1 "is_small" = true)
    (k1 : PySem.W.keepIn K (.ref f1) = true)
    (a2 : PySem.W.nsIn K mainGlobals "is_word" = some (some (.ref f2)))
    (l2 : K.lookup f2 = some ⟨oc2, od2, .func (PySem.W.fnOf "is_word" "is_word" (defArgs s_is_word) (defBody s_is_word) (defScope s_is_word) .none kV2 dc2 pm2 an2 cd2 ct2), sl2⟩)
    (c2 : PySem.W.codeIn K cd2 "is_word" = true)
    (k2 : PySem.W.keepIn K (.ref f2) = true)
    (a3 : PySem.W.nsIn K mainGlobals "is_name" = some (some (.ref f3)))
    (l3 : K.lookup f3 = some ⟨oc3, od3, .func (PySem.W.fnOf "is_name" "is_name" (defArgs s_is_name) (defBody s_is_name) (defScope s_is_name) .none kV3 dc3 pm3 an3 cd3 ct3), sl3⟩)
    (c3 : PySem.W.codeIn K cd3 "is_name" = true)
    (k3 : PySem.W.keepIn K (.ref f3) = true)
    (a4 : PySem.W.nsIn K mainGlobals "is_who" = some (some (.ref f4)))
    (l4 : K.lookup f4 = some ⟨oc4, od4, .func (PySem.W.fnOf "is_who" "is_who" (defArgs s_is_who) (defBody s_is_who) (defScope s_is_who) .none kV4 dc4 pm4 an4 cd4 ct4), sl4⟩)
    (c4 : PySem.W.codeIn K cd4 "is_who" = true)
    (k4 : PySem.W.keepIn K (.ref f4) = true)
    (a5 : PySem.W.nsIn K mainGlobals "wrong_in" = some (some (.ref f5)))
    (l5 : K.lookup f5 = some ⟨oc5, od5, .func (PySem.W.fnOf "wrong_in" "wrong_in" (defArgs s_wrong_in) (defBody s_wrong_in) (defScope s_wrong_in) .none kV5 dc5 pm5 an5 cd5 ct5), sl5⟩)
    (c5 : PySem.W.codeIn K cd5 "wrong_in" = true)
    (k5 : PySem.W.keepIn K (.ref f5) = true)
    (a6 : PySem.W.nsIn K mainGlobals "items_of" = some (some (.ref f6)))
    (l6 : K.lookup f6 = some ⟨oc6, od6, .func (PySem.W.fnOf "items_of" "items_of" (defArgs s_items_of) (defBody s_items_of) (defScope s_items_of) .none kV6 dc6 pm6 an6 cd6 ct6), sl6⟩)
    (c6 : PySem.W.codeIn K cd6 "items_of" = true)
    (k6 : PySem.W.keepIn K (.ref f6) = true)
    (a7 : PySem.W.nsIn K mainGlobals "built" = some (some (.ref f7)))
    (l7 : K.lookup f7 = some ⟨oc7, od7, .func (PySem.W.fnOf "built" "built" (defArgs s_built) (defBody s_built) (defScope s_built) .none kV7 dc7 pm7 an7 cd7 ct7), sl7⟩)
    (c7 : PySem.W.codeIn K cd7 "built" = true)
    (k7 : PySem.W.keepIn K (.ref f7) = true)
    (a8 : PySem.W.nsIn K mainGlobals "signs_of" = some (some (.ref f8)))
    (l8 : K.lookup f8 = some ⟨oc8, od8, .func (PySem.W.fnOf "signs_of" "signs_of" (defArgs s_signs_of) (defBody s_signs_of) (defScope s_signs_of) .none kV8 dc8 pm8 an8 cd8 ct8), sl8⟩)
    (c8 : PySem.W.codeIn K cd8 "signs_of" = true)
    (k8 : PySem.W.keepIn K (.ref f8) = true)
    (a9 : PySem.W.nsIn K mainGlobals "signs_in" = some (some (.ref f9)))
    (l9 : K.lookup f9 = some ⟨oc9, od9, .func (PySem.W.fnOf "signs_in" "signs_in" (defArgs s_signs_in) (defBody s_signs_in) (defScope s_signs_in) .none kV9 dc9 pm9 an9 cd9 ct9), sl9⟩)
    (c9 : PySem.W.codeIn K cd9 "signs_in" = true)
    (k9 : PySem.W.keepIn K (.ref f9) = true)
    (a10 : PySem.W.nsIn K mainGlobals "text_with" = some (some (.ref f10)))
    (l10 : K.lookup f10 = some ⟨oc10, od10, .func (PySem.W.fnOf "text_with" "text_with" (defArgs s_text_with) (defBody s_text_with) (defScope s_text_with) .none kV10 dc10 pm10 an10 cd10 ct10), sl10⟩)
    (c10 : PySem.W.codeIn K cd10 "text_with" = true)
    (k10 : PySem.W.keepIn K (.ref f10) = true)
    (a11 : PySem.W.nsIn K mainGlobals "texts_of" = some (some (.ref f11)))
    (l11 : K.lookup f11 = some ⟨oc11, od11, .func (PySem.W.fnOf "texts_of" "texts_of" (defArgs s_texts_of) (defBody s_texts_of) (defScope s_texts_of) .none kV11 dc11 pm11 an11 cd11 ct11), sl11⟩)
    (c11 : PySem.W.codeIn K cd11 "texts_of" = true)
    (k11 : PySem.W.keepIn K (.ref f11) = true)
    (a12 : PySem.W.nsIn K mainGlobals "outline_of" = some (some (.ref f12)))
    (l12 : K.lookup f12 = some ⟨oc12, od12, .func (PySem.W.fnOf "outline_of" "outline_of" (defArgs s_outline_of) (defBody s_outline_of) (defScope s_outline_of) .none kV12 dc12 pm12 an12 cd12 ct12), sl12⟩)
    (c12 : PySem.W.codeIn K cd12 "outline_of" = true)
    (k12 : PySem.W.keepIn K (.ref f12) = true)
    (a13 : PySem.W.findIn K (.ref e1) "__init__" = some (some (.ref f13)))
    (b13 : PySem.W.isFn K (.ref f13) = true)
    (l13 : K.lookup f13 = some ⟨oc13, od13, .func (PySem.W.fnOf "__init__" "Saying.__init__" (defArgs s_Saying___init__) (defBody s_Saying___init__) (defScope s_Saying___init__) .none kV13 dc13 pm13 an13 cd13 ct13), sl13⟩)
    (c13 : PySem.W.codeIn K cd13 "Saying.__init__" = true)
    (k13 : PySem.W.keepIn K (.ref f13) = true)
    (a14 : PySem.W.findIn K (.ref e1) "text" = some (some (.ref f14)))
    (b14 : PySem.W.isFn K (.ref f14) = true)
    (l14 : K.lookup f14 = some ⟨oc14, od14, .func (PySem.W.fnOf "text" "Saying.text" (defArgs s_Saying_text) (defBody s_Saying_text) (defScope s_Saying_text) .none kV14 dc14 pm14 an14 cd14 ct14), sl14⟩)
    (c14 : PySem.W.codeIn K cd14 "Saying.text" = true)
    (k14 : PySem.W.keepIn K (.ref f14) = true)
    (a15 : PySem.W.findIn K (.ref e1) "letters" = some (some (.ref f15)))
    (b15 : PySem.W.isFn K (.ref f15) = true)
    (l15 : K.lookup f15 = some ⟨oc15, od15, .func (PySem.W.fnOf "letters" "Saying.letters" (defArgs s_Saying_letters) (defBody s_Saying_letters) (defScope s_Saying_letters) .none kV15 dc15 pm15 an15 cd15 ct15), sl15⟩)
    (c15 : PySem.W.codeIn K cd15 "Saying.letters" = true)
    (k15 : PySem.W.keepIn K (.ref f15) = true)
    (a16 : PySem.W.findIn K (.ref e1) "acts" = some (some (.ref f16)))
    (b16 : PySem.W.isFn K (.ref f16) = true)
    (l16 : K.lookup f16 = some ⟨oc16, od16, .func (PySem.W.fnOf "acts" "Saying.acts" (defArgs s_Saying_acts) (defBody s_Saying_acts) (defScope s_Saying_acts) .none kV16 dc16 pm16 an16 cd16 ct16), sl16⟩)
    (c16 : PySem.W.codeIn K cd16 "Saying.acts" = true)
    (k16 : PySem.W.keepIn K (.ref f16) = true)
    (a17 : PySem.W.findIn K (.ref e1) "boxes" = some (some (.ref f17)))
    (b17 : PySem.W.isFn K (.ref f17) = true)
    (l17 : K.lookup f17 = some ⟨oc17, od17, .func (PySem.W.fnOf "boxes" "Saying.boxes" (defArgs s_Saying_boxes) (defBody s_Saying_boxes) (defScope s_Saying_boxes) .none kV17 dc17 pm17 an17 cd17 ct17), sl17⟩)
    (c17 : PySem.W.codeIn K cd17 "Saying.boxes" = true)
    (k17 : PySem.W.keepIn K (.ref f17) = true)
    (a18 : PySem.W.findIn K (.ref e1) "is_boxed" = some (some (.ref f18)))
    (b18 : PySem.W.isFn K (.ref f18) = true)
    (l18 : K.lookup f18 = some ⟨oc18, od18, .func (PySem.W.fnOf "is_boxed" "Saying.is_boxed" (defArgs s_Saying_is_boxed) (defBody s_Saying_is_boxed) (defScope s_Saying_is_boxed) .none kV18 dc18 pm18 an18 cd18 ct18), sl18⟩)
    (c18 : PySem.W.codeIn K cd18 "Saying.is_boxed" = true)
    (k18 : PySem.W.keepIn K (.ref f18) = true)
    (a19 : PySem.W.nsIn K mainGlobals "_law_stream" = some (some (.ref f19)))
    (l19 : K.lookup f19 = some ⟨oc19, od19, .func (PySem.W.fnOf "_law_stream" "_law_stream" (defArgs s__law_stream) (defBody s__law_stream) (defScope s__law_stream) .none kV19 dc19 pm19 an19 cd19 ct19), sl19⟩)
    (c19 : PySem.W.codeIn K cd19 "_law_stream" = true)
    (k19 : PySem.W.keepIn K (.ref f19) = true)
    (a20 : PySem.W.nsIn K mainGlobals "_law_draw" = some (some (.ref f20)))
    (l20 : K.lookup f20 = some ⟨oc20, od20, .func (PySem.W.fnOf "_law_draw" "_law_draw" (defArgs s__law_draw) (defBody s__law_draw) (defScope s__law_draw) .none kV20 dc20 pm20 an20 cd20 ct20), sl20⟩)
    (c20 : PySem.W.codeIn K cd20 "_law_draw" = true)
    (k20 : PySem.W.keepIn K (.ref f20) = true)
    (a21 : PySem.W.nsIn K mainGlobals "_law_pick" = some (some (.ref f21)))
    (l21 : K.lookup f21 = some ⟨oc21, od21, .func (PySem.W.fnOf "_law_pick" "_law_pick" (defArgs s__law_pick) (defBody s__law_pick) (defScope s__law_pick) .none kV21 dc21 pm21 an21 cd21 ct21), sl21⟩)
    (c21 : PySem.W.codeIn K cd21 "_law_pick" = true)
    (k21 : PySem.W.keepIn K (.ref f21) = true)
    (a22 : PySem.W.nsIn K mainGlobals "_law_text" = some (some (.ref f22)))
    (l22 : K.lookup f22 = some ⟨oc22, od22, .func (PySem.W.fnOf "_law_text" "_law_text" (defArgs s__law_text) (defBody s__law_text) (defScope s__law_text) .none kV22 dc22 pm22 an22 cd22 ct22), sl22⟩)
    (c22 : PySem.W.codeIn K cd22 "_law_text" = true)
    (k22 : PySem.W.keepIn K (.ref f22) = true)
    (a23 : PySem.W.nsIn K mainGlobals "_law_inner" = some (some (.ref f23)))
    (l23 : K.lookup f23 = some ⟨oc23, od23, .func (PySem.W.fnOf "_law_inner" "_law_inner" (defArgs s__law_inner) (defBody s__law_inner) (defScope s__law_inner) .none kV23 dc23 pm23 an23 cd23 ct23), sl23⟩)
    (c23 : PySem.W.codeIn K cd23 "_law_inner" = true)
    (k23 : PySem.W.keepIn K (.ref f23) = true)
    (a24 : PySem.W.nsIn K mainGlobals "_law_all" = some (some (.ref f24)))
    (l24 : K.lookup f24 = some ⟨oc24, od24, .func (PySem.W.fnOf "_law_all" "_law_all" (defArgs s__law_all) (defBody s__law_all) (defScope s__law_all) .none kV24 dc24 pm24 an24 cd24 ct24), sl24⟩)
    (c24 : PySem.W.codeIn K cd24 "_law_all" = true)
    (k24 : PySem.W.keepIn K (.ref f24) = true)
    (a25 : PySem.W.nsIn K mainGlobals "_law_atoms" = some (some (.ref f25)))
    (l25 : K.lookup f25 = some ⟨oc25, od25, .func (PySem.W.fnOf "_law_atoms" "_law_atoms" (defArgs s__law_atoms) (defBody s__law_atoms) (defScope s__law_atoms) .none kV25 dc25 pm25 an25 cd25 ct25), sl25⟩)
    (c25 : PySem.W.codeIn K cd25 "_law_atoms" = true)
    (k25 : PySem.W.keepIn K (.ref f25) = true)
    (a26 : PySem.W.nsIn K mainGlobals "_law_free" = some (some (.ref f26)))
    (l26 : K.lookup f26 = some ⟨oc26, od26, .func (PySem.W.fnOf "_law_free" "_law_free" (defArgs s__law_free) (defBody s__law_free) (defScope s__law_free) .none kV26 dc26 pm26 an26 cd26 ct26), sl26⟩)
    (c26 : PySem.W.codeIn K cd26 "_law_free" = true)
    (k26 : PySem.W.keepIn K (.ref f26) = true)
    (a27 : PySem.W.nsIn K mainGlobals "_law_open" = some (some (.ref f27)))
    (l27 : K.lookup f27 = some ⟨oc27, od27, .func (PySem.W.fnOf "_law_open" "_law_open" (defArgs s__law_open) (defBody s__law_open) (defScope s__law_open) .none kV27 dc27 pm27 an27 cd27 ct27), sl27⟩)
    (c27 : PySem.W.codeIn K cd27 "_law_open" = true)
    (k27 : PySem.W.keepIn K (.ref f27) = true)
    (a28 : PySem.W.nsIn K mainGlobals "law" = some (some (.ref f28)))
    (l28 : K.lookup f28 = some ⟨oc28, od28, .func (PySem.W.fnOf "law" "law" (defArgs s_law) (defBody s_law) (defScope s_law) .none kV28 dc28 pm28 an28 cd28 ct28), sl28⟩)
    (c28 : PySem.W.codeIn K cd28 "law" = true)
    (k28 : PySem.W.keepIn K (.ref f28) = true)
    (u1 : PySem.W.nsIn K mainGlobals "FORMS_IN" = some (some (.ref x1)))
    (v1 : K.lookup x1 = some ⟨.type "dict", none, .dict es1 xn1, #[]⟩)
    (w1 : PySem.W.KeysLit w.params es1.toList)
    (yq1 : (x1 == sysModules) = false)
    (i1_0 : PySem.W.nsIn K x1 "yes" = some (some (.int 0 t1_0)))
    (i1_1 : PySem.W.nsIn K x1 "no" = some (some (.int 0 t1_1)))
    (i1_2 : PySem.W.nsIn K x1 "letter" = some (some (.int 0 t1_2)))
    (i1_3 : PySem.W.nsIn K x1 "act" = some (some (.int 0 t1_3)))
    (i1_4 : PySem.W.nsIn K x1 "not" = some (some (.int 1 t1_4)))
    (i1_5 : PySem.W.nsIn K x1 "and" = some (some (.int 2 t1_5)))
    (i1_6 : PySem.W.nsIn K x1 "or" = some (some (.int 2 t1_6)))
    (i1_7 : PySem.W.nsIn K x1 "if" = some (some (.int 2 t1_7)))
    (i1_8 : PySem.W.nsIn K x1 "box" = some (some (.int 1 t1_8)))
    (u2 : PySem.W.nsIn K mainGlobals "TOLD" = some (some (.ref x2)))
    (v2 : K.lookup x2 = some ⟨.type "tuple", xd2, .seq #[.str "letter" t2_0, .str "act" t2_1, .str "box" t2_2] xn2, xs2⟩)
    (u3 : PySem.W.nsIn K mainGlobals "MOST_SIGNS" = some (some (.int 100000 t3)))
    (u4 : PySem.W.nsIn K mainGlobals "AHEAD" = some (some (.ref x4)))
    (v4 : K.lookup x4 = some ⟨.type "dict", none, .dict es4 xn4, #[]⟩)
    (w4 : PySem.W.KeysLit w.params es4.toList)
    (yq4 : (x4 == sysModules) = false)
    (i4_0 : PySem.W.nsIn K x4 "not" = some (some (.str "~" t4_0)))
    (i4_1 : PySem.W.nsIn K x4 "box" = some (some (.str "#" t4_1)))
    (j4 : es4.toList.map (·.key) = [.str "not" s4_0, .str "box" s4_1])
    (u5 : PySem.W.nsIn K mainGlobals "BETWEEN" = some (some (.ref x5)))
    (v5 : K.lookup x5 = some ⟨.type "dict", none, .dict es5 xn5, #[]⟩)
    (w5 : PySem.W.KeysLit w.params es5.toList)
    (yq5 : (x5 == sysModules) = false)
    (i5_0 : PySem.W.nsIn K x5 "and" = some (some (.str " & " t5_0)))
    (i5_1 : PySem.W.nsIn K x5 "or" = some (some (.str " | " t5_1)))
    (i5_2 : PySem.W.nsIn K x5 "if" = some (some (.str " > " t5_2)))
    (j5 : es5.toList.map (·.key) = [.str "and" s5_0, .str "or" s5_1, .str "if" s5_2])
    (u6 : PySem.W.nsIn K mainGlobals "WORDS_IN" = some (some (.ref x6)))
    (v6 : K.lookup x6 = some ⟨.type "dict", none, .dict es6 xn6, #[]⟩)
    (w6 : PySem.W.KeysLit w.params es6.toList)
    (yq6 : (x6 == sysModules) = false)
    (i6_0 : PySem.W.nsIn K x6 "yes" = some (some (.int 0 t6_0)))
    (i6_1 : PySem.W.nsIn K x6 "no" = some (some (.int 0 t6_1)))
    (i6_2 : PySem.W.nsIn K x6 "letter" = some (some (.int 1 t6_2)))
    (i6_3 : PySem.W.nsIn K x6 "act" = some (some (.int 2 t6_3)))
    (i6_4 : PySem.W.nsIn K x6 "not" = some (some (.int 0 t6_4)))
    (i6_5 : PySem.W.nsIn K x6 "and" = some (some (.int 0 t6_5)))
    (i6_6 : PySem.W.nsIn K x6 "or" = some (some (.int 0 t6_6)))
    (i6_7 : PySem.W.nsIn K x6 "if" = some (some (.int 0 t6_7)))
    (i6_8 : PySem.W.nsIn K x6 "box" = some (some (.int 0 t6_8)))
    (u7 : PySem.W.nsIn K mainGlobals "KEPT_WORDS" = some (some (.ref x7)))
    (v7 : K.lookup x7 = some ⟨.type "tuple", xd7, .seq #[.str "yes" t7_0, .str "no" t7_1, .str "me" t7_2, .str "him" t7_3, .str "x" t7_4] xn7, xs7⟩)
    (u8 : PySem.W.nsIn K mainGlobals "LONGEST_WORD" = some (some (.int 8 t8)))
    (z_abs : PySem.W.nsIn K mainGlobals "abs" = some none)
    (z_all : PySem.W.nsIn K mainGlobals "all" = some none)
    (z_any : PySem.W.nsIn K mainGlobals "any" = some none)
    (z_int : PySem.W.nsIn K mainGlobals "int" = some none)
    (z_isinstance : PySem.W.nsIn K mainGlobals "isinstance" = some none)
    (z_len : PySem.W.nsIn K mainGlobals "len" = some none)
    (z_list : PySem.W.nsIn K mainGlobals "list" = some none)
    (z_range : PySem.W.nsIn K mainGlobals "range" = some none)
    (z_set : PySem.W.nsIn K mainGlobals "set" = some none)
    (z_sorted : PySem.W.nsIn K mainGlobals "sorted" = some none)
    (z_str : PySem.W.nsIn K mainGlobals "str" = some none)
    (z_tuple : PySem.W.nsIn K mainGlobals "tuple" = some none)
    (z_zip : PySem.W.nsIn K mainGlobals "zip" = some none)
    : ∃ fd : FuncData, (∀ (s : Shared) (v : Value), BindsTo s fd ⟨[v], []⟩ [("_law_script", v)]) ∧ ∀ base : Heap, K.In base → base.Ns mainGlobals mg → FnOk l.prog w K mg base (L2.CX l.prog w) 62 fa fd ["_law_script"] (spLaw K) := by
  have e := hfa.symm.trans (PySem.W.mg_of X G a28)
  cases e
  have E1 : clA K "Saying" = e1 := by
    unfold clA
    rw [g1]
  subst E1

  have F1 := fun_mk (st := s_is_small) l1 c1 k1
  have F2 := fun_mk (st := s_is_word) l2 c2 k2
  have F3 := fun_mk (st := s_is_name) l3 c3 k3
  have F4 := fun_mk (st := s_is_who) l4 c4 k4
  have F5 := fun_mk (st := s_wrong_in) l5 c5 k5
  have F6 := fun_mk (st := s_items_of) l6 c6 k6
  have F7 := fun_mk (st := s_built) l7 c7 k7
  have F8 := fun_mk (st := s_signs_of) l8 c8 k8
  have F9 := fun_mk (st := s_signs_in) l9 c9 k9
  have F10 := fun_mk (st := s_text_with) l10 c10 k10
  have F11 := fun_mk (st := s_texts_of) l11 c11 k11
  have F12 := fun_mk (st := s_outline_of) l12 c12 k12
  have F13 := fun_mk (st := s_Saying___init__) l13 c13 k13
  have F14 := fun_mk (st := s_Saying_text) l14 c14 k14
  have F15 := fun_mk (st := s_Saying_letters) l15 c15 k15
  have F16 := fun_mk (st := s_Saying_acts) l16 c16 k16
  have F17 := fun_mk (st := s_Saying_boxes) l17 c17 k17
  have F18 := fun_mk (st := s_Saying_is_boxed) l18 c18 k18
  have F19 := fun_mk (st := s__law_stream) l19 c19 k19
  have F20 := fun_mk (st := s__law_draw) l20 c20 k20
  have F21 := fun_mk (st := s__law_pick) l21 c21 k21
  have F22 := fun_mk (st := s__law_text) l22 c22 k22
  have F23 := fun_mk (st := s__law_inner) l23 c23 k23
  have F24 := fun_mk (st := s__law_all) l24 c24 k24
  have F25 := fun_mk (st := s__law_atoms) l25 c25 k25
  have F26 := fun_mk (st := s__law_free) l26 c26 k26
  have F27 := fun_mk (st := s__law_open) l27 c27 k27
  have F28 := fun_mk (st := s_law) l28 c28 k28
  have T : Txt K w mg ⟨f1, _, f2, _, f3, _, f4, _, f5, _, f6, _, f7, _, f8, _, f9, _, f10, _, f11, _, f12, _, f13, _, f14, _, f15, _, f16, _, f17, _, f18, _, f19, _, f20, _, f21, _, f22, _, f23, _, f24, _, f25, _, f26, _, f27, _, fa, _, x1, x2, .int 100000 t3, x4, x5, x6, x7, .int 8 t8⟩ := {
    o_Saying := ⟨⟨p1_0, p1_1, p1_2, p1_3⟩, p1_4, p1_5, p1_6, p1_7, p1_8⟩,
    m_Saying := PySem.W.mg_of X G g1,
    k_Saying := ⟨p1_9, a13, b13, p1_10⟩,
    n_Saying__form := n1__form,
    n_Saying__signs := n1__signs,
    x_FORMS_IN := PySem.W.mg_of X G u1,
    y_FORMS_IN := wdic_mk ⟨_, _, v1, w1, yq1⟩ (List.forall_mem_cons.mpr ⟨⟨_, .int 0, i1_0, ⟨_, rfl⟩, fun _ => rfl⟩, (List.forall_mem_cons.mpr ⟨⟨_, .int 0, i1_1, ⟨_, rfl⟩, fun _ => rfl⟩, (List.forall_mem_cons.mpr ⟨⟨_, .int 0, i1_2, ⟨_, rfl⟩, fun _ => rfl⟩, (List.forall_mem_cons.mpr ⟨⟨_, .int 0, i1_3, ⟨_, rfl⟩, fun _ => rfl⟩, (List.forall_mem_cons.mpr ⟨⟨_, .int 1, i1_4, ⟨_, rfl⟩, fun _ => rfl⟩, (List.forall_mem_cons.mpr ⟨⟨_, .int 2, i1_5, ⟨_, rfl⟩, fun _ => rfl⟩, (List.forall_mem_cons.mpr ⟨⟨_, .int 2, i1_6, ⟨_, rfl⟩, fun _ => rfl⟩, (List.forall_mem_cons.mpr ⟨⟨_, .int 2, i1_7, ⟨_, rfl⟩, fun _ => rfl⟩, (List.forall_mem_cons.mpr ⟨⟨_, .int 1, i1_8, ⟨_, rfl⟩, fun _ => rfl⟩, (fun _ h => absurd h List.not_mem_nil)⟩)⟩)⟩)⟩)⟩)⟩)⟩)⟩)⟩),
    x_TOLD := PySem.W.mg_of X G u2,
    y_TOLD := kt_strs [("letter", t2_0), ("act", t2_1), ("box", t2_2)] v2 (by show 3 ≤ sizeLine; decide),
    x_MOST_SIGNS := ⟨PySem.W.mg_of X G u3, ⟨_, rfl⟩⟩,
    x_AHEAD := PySem.W.mg_of X G u4,
    y_AHEAD := wdic_mk ⟨_, _, v4, w4, yq4⟩ (List.forall_mem_cons.mpr ⟨⟨_, .str "~", i4_0, ⟨_, rfl⟩, fun _ => rfl⟩, (List.forall_mem_cons.mpr ⟨⟨_, .str "#", i4_1, ⟨_, rfl⟩, fun _ => rfl⟩, (fun _ h => absurd h List.not_mem_nil)⟩)⟩),
    w_AHEAD := adic_mk (ts := [s4_0, s4_1]) v4 j4 rfl,
    x_BETWEEN := PySem.W.mg_of X G u5,
    y_BETWEEN := wdic_mk ⟨_, _, v5, w5, yq5⟩ (List.forall_mem_cons.mpr ⟨⟨_, .str " & ", i5_0, ⟨_, rfl⟩, fun _ => rfl⟩, (List.forall_mem_cons.mpr ⟨⟨_, .str " | ", i5_1, ⟨_, rfl⟩, fun _ => rfl⟩, (List.forall_mem_cons.mpr ⟨⟨_, .str " > ", i5_2, ⟨_, rfl⟩, fun _ => rfl⟩, (fun _ h => absurd h List.not_mem_nil)⟩)⟩)⟩),
    w_BETWEEN := adic_mk (ts := [s5_0, s5_1, s5_2]) v5 j5 rfl,
    x_WORDS_IN := PySem.W.mg_of X G u6,
    y_WORDS_IN := wdic_mk ⟨_, _, v6, w6, yq6⟩ (List.forall_mem_cons.mpr ⟨⟨_, .int 0, i6_0, ⟨_, rfl⟩, fun _ => rfl⟩, (List.forall_mem_cons.mpr ⟨⟨_, .int 0, i6_1, ⟨_, rfl⟩, fun _ => rfl⟩, (List.forall_mem_cons.mpr ⟨⟨_, .int 1, i6_2, ⟨_, rfl⟩, fun _ => rfl⟩, (List.forall_mem_cons.mpr ⟨⟨_, .int 2, i6_3, ⟨_, rfl⟩, fun _ => rfl⟩, (List.forall_mem_cons.mpr ⟨⟨_, .int 0, i6_4, ⟨_, rfl⟩, fun _ => rfl⟩, (List.forall_mem_cons.mpr ⟨⟨_, .int 0, i6_5, ⟨_, rfl⟩, fun _ => rfl⟩, (List.forall_mem_cons.mpr ⟨⟨_, .int 0, i6_6, ⟨_, rfl⟩, fun _ => rfl⟩, (List.forall_mem_cons.mpr ⟨⟨_, .int 0, i6_7, ⟨_, rfl⟩, fun _ => rfl⟩, (List.forall_mem_cons.mpr ⟨⟨_, .int 0, i6_8, ⟨_, rfl⟩, fun _ => rfl⟩, (fun _ h => absurd h List.not_mem_nil)⟩)⟩)⟩)⟩)⟩)⟩)⟩)⟩)⟩),
    x_KEPT_WORDS := PySem.W.mg_of X G u7,
    y_KEPT_WORDS := kt_strs [("yes", t7_0), ("no", t7_1), ("me", t7_2), ("him", t7_3), ("x", t7_4)] v7 (by show 5 ≤ sizeLine; decide),
    x_LONGEST_WORD := ⟨PySem.W.mg_of X G u8, ⟨_, rfl⟩⟩,
    F_is_small := F1,
    b_is_small := F1.binds (ps := ["sign"]) (fun _ _ _ _ _ _ us hl => match us, hl with | [_], _ => rfl),
    g_is_small := PySem.W.mg_of X G a1,
    F_is_word := F2,
    b_is_word := F2.binds (ps := ["thing"]) (fun _ _ _ _ _ _ us hl => match us, hl with | [_], _ => rfl),
    g_is_word := PySem.W.mg_of X G a2,
    F_is_name := F3,
    b_is_name := F3.binds (ps := ["thing"]) (fun _ _ _ _ _ _ us hl => match us, hl with | [_], _ => rfl),
    g_is_name := PySem.W.mg_of X G a3,
    F_is_who := F4,
    b_is_who := F4.binds (ps := ["thing"]) (fun _ _ _ _ _ _ us hl => match us, hl with | [_], _ => rfl),
    g_is_who := PySem.W.mg_of X G a4,
    F_wrong_in := F5,
    b_wrong_in := F5.binds (ps := ["item"]) (fun _ _ _ _ _ _ us hl => match us, hl with | [_], _ => rfl),
    g_wrong_in := PySem.W.mg_of X G a5,
    F_items_of := F6,
    b_items_of := F6.binds (ps := ["form"]) (fun _ _ _ _ _ _ us hl => match us, hl with | [_], _ => rfl),
    g_items_of := PySem.W.mg_of X G a6,
    F_built := F7,
    b_built := F7.binds (ps := ["items"]) (fun _ _ _ _ _ _ us hl => match us, hl with | [_], _ => rfl),
    g_built := PySem.W.mg_of X G a7,
    F_signs_of := F8,
    b_signs_of := F8.binds (ps := ["form"]) (fun _ _ _ _ _ _ us hl => match us, hl with | [_], _ => rfl),
    g_signs_of := PySem.W.mg_of X G a8,
    F_signs_in := F9,
    b_signs_in := F9.binds (ps := ["form"]) (fun _ _ _ _ _ _ us hl => match us, hl with | [_], _ => rfl),
    g_signs_in := PySem.W.mg_of X G a9,
    F_text_with := F10,
    b_text_with := F10.binds (ps := ["sign", "inner"]) (fun _ _ _ _ _ _ us hl => match us, hl with | [_, _], _ => rfl),
    g_text_with := PySem.W.mg_of X G a10,
    F_texts_of := F11,
    b_texts_of := F11.binds (ps := ["signs"]) (fun _ _ _ _ _ _ us hl => match us, hl with | [_], _ => rfl),
    g_texts_of := PySem.W.mg_of X G a11,
    F_outline_of := F12,
    b_outline_of := F12.binds (ps := ["form"]) (fun _ _ _ _ _ _ us hl => match us, hl with | [_], _ => rfl),
    g_outline_of := PySem.W.mg_of X G a12,
    F_Saying___init__ := F13,
    b_Saying___init__ := F13.binds (ps := ["self", "form"]) (fun _ _ _ _ _ _ us hl => match us, hl with | [_, _], _ => rfl),
    F_Saying_text := F14,
    b_Saying_text := F14.binds (ps := ["self"]) (fun _ _ _ _ _ _ us hl => match us, hl with | [_], _ => rfl),
    g_Saying_text := ⟨a14, b14, k14⟩,
    F_Saying_letters := F15,
    b_Saying_letters := F15.binds (ps := ["self"]) (fun _ _ _ _ _ _ us hl => match us, hl with | [_], _ => rfl),
    g_Saying_letters := ⟨a15, b15, k15⟩,
    F_Saying_acts := F16,
    b_Saying_acts := F16.binds (ps := ["self"]) (fun _ _ _ _ _ _ us hl => match us, hl with | [_], _ => rfl),
    g_Saying_acts := ⟨a16, b16, k16⟩,
    F_Saying_boxes := F17,
    b_Saying_boxes := F17.binds (ps := ["self"]) (fun _ _ _ _ _ _ us hl => match us, hl with | [_], _ => rfl),
    g_Saying_boxes := ⟨a17, b17, k17⟩,
    F_Saying_is_boxed := F18,
    b_Saying_is_boxed := F18.binds (ps := ["self"]) (fun _ _ _ _ _ _ us hl => match us, hl with | [_], _ => rfl),
    g_Saying_is_boxed := ⟨a18, b18, k18⟩,
    F__law_stream := F19,
    b__law_stream := F19.binds (ps := ["_law_script", "_law_k"]) (fun _ _ _ _ _ _ us hl => match us, hl with | [_, _], _ => rfl),
    g__law_stream := PySem.W.mg_of X G a19,
    F__law_draw := F20,
    b__law_draw := F20.binds (ps := ["_law_stream_here", "_law_many"]) (fun _ _ _ _ _ _ us hl => match us, hl with | [_, _], _ => rfl),
    g__law_draw := PySem.W.mg_of X G a20,
    F__law_pick := F21,
    b__law_pick := F21.binds (ps := ["_law_stream_here", "_law_things"]) (fun _ _ _ _ _ _ us hl => match us, hl with | [_, _], _ => rfl),
    g__law_pick := PySem.W.mg_of X G a21,
    F__law_text := F22,
    b__law_text := F22.binds (ps := ["_law_form"]) (fun _ _ _ _ _ _ us hl => match us, hl with | [_], _ => rfl),
    g__law_text := PySem.W.mg_of X G a22,
    F__law_inner := F23,
    b__law_inner := F23.binds (ps := ["_law_form"]) (fun _ _ _ _ _ _ us hl => match us, hl with | [_], _ => rfl),
    g__law_inner := PySem.W.mg_of X G a23,
    F__law_all := F24,
    b__law_all := F24.binds (ps := ["_law_form"]) (fun _ _ _ _ _ _ us hl => match us, hl with | [_], _ => rfl),
    g__law_all := PySem.W.mg_of X G a24,
    F__law_atoms := F25,
    b__law_atoms := F25.binds (ps := []) (fun _ _ _ _ _ _ us hl => match us, hl with | [], _ => rfl),
    g__law_atoms := PySem.W.mg_of X G a25,
    F__law_free := F26,
    b__law_free := F26.binds (ps := ["_law_stream_here", "_law_atoms_here", "_law_size"]) (fun _ _ _ _ _ _ us hl => match us, hl with | [_, _, _], _ => rfl),
    g__law_free := PySem.W.mg_of X G a26,
    F__law_open := F27,
    b__law_open := F27.binds (ps := ["_law_form"]) (fun _ _ _ _ _ _ us hl => match us, hl with | [_], _ => rfl),
    g__law_open := PySem.W.mg_of X G a27,
    F_law := F28,
    b_law := F28.binds (ps := ["_law_script"]) (fun _ _ _ _ _ _ us hl => match us, hl with | [_], _ => rfl),
    g_law := PySem.W.mg_of X G a28,
    z_abs := PySem.W.mg_none_of X G z_abs,
    z_all := PySem.W.mg_none_of X G z_all,
    z_any := PySem.W.mg_none_of X G z_any,
    z_int := PySem.W.mg_none_of X G z_int,
    z_isinstance := PySem.W.mg_none_of X G z_isinstance,
    z_len := PySem.W.mg_none_of X G z_len,
    z_list := PySem.W.mg_none_of X G z_list,
    z_range := PySem.W.mg_none_of X G z_range,
    z_set := PySem.W.mg_none_of X G z_set,
    z_sorted := PySem.W.mg_none_of X G z_sorted,
    z_str := PySem.W.mg_none_of X G z_str,
    z_tuple := PySem.W.mg_none_of X G z_tuple,
    z_zip := PySem.W.mg_none_of X G z_zip }
  refine ⟨PySem.W.fnOf "law" "law" (defArgs s_law) (defBody s_law) (defScope s_law) .none kV28 dc28 pm28 an28 cd28 ct28, fun s v => .of_eq rfl, fun base _ _ => ?_⟩
  have G_is_small := ok_is_small (P := l.prog) (w := w) (base := base) T
  have G_is_word := ok_is_word (P := l.prog) (w := w) (base := base) T G_is_small
  have G_is_name := ok_is_name (P := l.prog) (w := w) (base := base) T G_is_word
  have G_is_who := ok_is_who (P := l.prog) (w := w) (base := base) T G_is_word
  have G_wrong_in := ok_wrong_in (P := l.prog) (w := w) (base := base) T G_is_name G_is_who
  have G_items_of := ok_items_of (P := l.prog) (w := w) (base := base) T G_wrong_in
  have G_built := ok_built (P := l.prog) (w := w) (base := base) T
  have G_signs_of := ok_signs_of (P := l.prog) (w := w) (base := base) T G_built G_items_of
  have G_signs_in := ok_signs_in (P := l.prog) (w := w) (base := base) T
  have G_text_with := ok_text_with (P := l.prog) (w := w) (base := base) T
  have G_texts_of := ok_texts_of (P := l.prog) (w := w) (base := base) T G_text_with
  have G_outline_of := ok_outline_of (P := l.prog) (w := w) (base := base) T G_texts_of G_signs_in
  have G_Saying___init__ := ok_Saying___init__ (P := l.prog) (w := w) (base := base) T G_signs_of
  have G_Saying_text := ok_Saying_text (P := l.prog) (w := w) (base := base) T G_texts_of
  have G_Saying_letters := ok_Saying_letters (P := l.prog) (w := w) (base := base) T
  have G_Saying_acts := ok_Saying_acts (P := l.prog) (w := w) (base := base) T
  have G_Saying_boxes := ok_Saying_boxes (P := l.prog) (w := w) (base := base) T G_texts_of G_Saying___init__
  have G_Saying_is_boxed := ok_Saying_is_boxed (P := l.prog) (w := w) (base := base) T G_outline_of
  have G__law_stream := ok__law_stream (P := l.prog) (w := w) (base := base) T
  have G__law_draw := ok__law_draw (P := l.prog) (w := w) (base := base) T
  have G__law_pick := ok__law_pick (P := l.prog) (w := w) (base := base) T G__law_draw
  have G__law_text := ok__law_text (P := l.prog) (w := w) (base := base) T 60
  have G__law_inner := ok__law_inner (P := l.prog) (w := w) (base := base) T
  have G__law_all := ok__law_all (P := l.prog) (w := w) (base := base) T G__law_inner 60
  have G__law_atoms := ok__law_atoms (P := l.prog) (w := w) (base := base) T
  have G__law_free := ok__law_free (P := l.prog) (w := w) (base := base) T G__law_draw G__law_pick 20
  have G__law_open := ok__law_open (P := l.prog) (w := w) (base := base) T G__law_inner 60
  have G_law := ok_law (P := l.prog) (w := w) (base := base) T G__law_stream G__law_free G__law_atoms G__law_all G_Saying___init__ G__law_text G_Saying_boxes G_Saying_acts G_Saying_letters G_Saying_text G_Saying_is_boxed G__law_open
  exact G_law.imp (law_of fun ns hl => law_true ns)
end K06
open PySem PySem.W PyProof.Rows
set_option maxHeartbeats 0 in
theorem PySem.Challenge.cw_boxfall_k06_parts_of_sayings_holds : PySem.Challenge.rw_boxfall_k06_parts_of_sayings.Holds := by
  w_on; o_law; k_head; (case hw => w_witness2)
  k_fill
  refine L2.walk_of (l := PySem.Challenge.rw_boxfall_k06_parts_of_sayings) (n := 63) (k := 62) (x := "_law_script") (CX := fun w => L2.CX (PySem.W.OpenLaw.prog PySem.Challenge.rw_boxfall_k06_parts_of_sayings) w) (sp := fun w => Hk.spLaw _) rfl (by decide) rfl ⟨rfl, by decide, by decide⟩ (fun w h Y => PySem.W.kIn_of Y) ?F (fun _ _ a ns hl _ hS => ⟨a, ns, rfl, hS, hl, fun _ => rfl⟩) (fun _ _ _ _ _ hx => by obtain ⟨_, _, _, _, _, _, _, _, _, _, _, _, h⟩ := hx; exact h)
  case F =>
    intro w mg fa h KX G hmg
    refine' K06.all_mk KX G hmg ?g1 ?p1_0 ?p1_1 ?p1_2 ?p1_3 ?p1_4 ?p1_5 ?p1_6 ?p1_7 ?p1_8 ?p1_9 ?p1_10 ?n1__form ?n1__signs ?a1 ?l1 ?c1 ?k1 ?a2 ?l2 ?c2 ?k2 ?a3 ?l3 ?c3 ?k3 ?a4 ?l4 ?c4 ?k4 ?a5 ?l5 ?c5 ?k5 ?a6 ?l6 ?c6 ?k6 ?a7 ?l7 ?c7 ?k7 ?a8 ?l8 ?c8 ?k8 ?a9 ?l9 ?c9 ?k9 ?a10 ?l10 ?c10 ?k10 ?a11 ?l11 ?c11 ?k11 ?a12 ?l12 ?c12 ?k12 ?a13 ?b13 ?l13 ?c13 ?k13 ?a14 ?b14 ?l14 ?c14 ?k14 ?a15 ?b15 ?l15 ?c15 ?k15 ?a16 ?b16 ?l16 ?c16 ?k16 ?a17 ?b17 ?l17 ?c17 ?k17 ?a18 ?b18 ?l18 ?c18 ?k18 ?a19 ?l19 ?c19 ?k19 ?a20 ?l20 ?c20 ?k20 ?a21 ?l21 ?c21 ?k21 ?a22 ?l22 ?c22 ?k22 ?a23 ?l23 ?c23 ?k23 ?a24 ?l24 ?c24 ?k24 ?a25 ?l25 ?c25 ?k25 ?a26 ?l26 ?c26 ?k26 ?a27 ?l27 ?c27 ?k27 ?a28 ?l28 ?c28 ?k28 ?u1 ?v1 ?w1 ?yq1 ?i1_0 ?i1_1 ?i1_2 ?i1_3 ?i1_4 ?i1_5 ?i1_6 ?i1_7 ?i1_8 ?u2 ?v2 ?u3 ?u4 ?v4 ?w4 ?yq4 ?i4_0 ?i4_1 ?j4 ?u5 ?v5 ?w5 ?yq5 ?i5_0 ?i5_1 ?i5_2 ?j5 ?u6 ?v6 ?w6 ?yq6 ?i6_0 ?i6_1 ?i6_2 ?i6_3 ?i6_4 ?i6_5 ?i6_6 ?i6_7 ?i6_8 ?u7 ?v7 ?u8 ?z_abs ?z_all ?z_any ?z_int ?z_isinstance ?z_len ?z_list ?z_range ?z_set ?z_sorted ?z_str ?z_tuple ?z_zip
    (case g1 => k_is)
    (case p1_0 => k_is)
    (case p1_1 => k_is)
    (case p1_2 => k_is)
    (case p1_3 => k_is)
    (case p1_4 => k_is)
    (case p1_5 => k_is)
    (case p1_6 => k_is)
    (case p1_7 => k_is)
    (case p1_8 => k_is)
    (case p1_9 => k_is)
    (case p1_10 => k_is)
    (case n1__form => k_is)
    (case n1__signs => k_is)
    (case a1 => k_is)
    (case l1 => k_is)
    (case c1 => k_is)
    (case k1 => k_is)
    (case a2 => k_is)
    (case l2 => k_is)
    (case c2 => k_is)
    (case k2 => k_is)
    (case a3 => k_is)
    (case l3 => k_is)
    (case c3 => k_is)
    (case k3 => k_is)
    (case a4 => k_is)
    (case l4 => k_is)
    (case c4 => k_is)
    (case k4 => k_is)
    (case a5 => k_is)
    (case l5 => k_is)
    (case c5 => k_is)
    (case k5 => k_is)
    (case a6 => k_is)
    (case l6 => k_is)
    (case c6 => k_is)
    (case k6 => k_is)
    (case a7 => k_is)
    (case l7 => k_is)
    (case c7 => k_is)
    (case k7 => k_is)
    (case a8 => k_is)
    (case l8 => k_is)
    (case c8 => k_is)
    (case k8 => k_is)
    (case a9 => k_is)
    (case l9 => k_is)
    (case c9 => k_is)
    (case k9 => k_is)
    (case a10 => k_is)
    (case l10 => k_is)
    (case c10 => k_is)
    (case k10 => k_is)
    (case a11 => k_is)
    (case l11 => k_is)
    (case c11 => k_is)
    (case k11 => k_is)
    (case a12 => k_is)
    (case l12 => k_is)
    (case c12 => k_is)
    (case k12 => k_is)
    (case a13 => k_is)
    (case b13 => k_is)
    (case l13 => k_is)
    (case c13 => k_is)
    (case k13 => k_is)
    (case a14 => k_is)
    (case b14 => k_is)
    (case l14 => k_is)
    (case c14 => k_is)
    (case k14 => k_is)
    (case a15 => k_is)
    (case b15 => k_is)
    (case l15 => k_is)
    (case c15 => k_is)
    (case k15 => k_is)
    (case a16 => k_is)
    (case b16 => k_is)
    (case l16 => k_is)
    (case c16 => k_is)
    (case k16 => k_is)
    (case a17 => k_is)
    (case b17 => k_is)
    (case l17 => k_is)
    (case c17 => k_is)
    (case k17 => k_is)
    (case a18 => k_is)
    (case b18 => k_is)
    (case l18 => k_is)
    (case c18 => k_is)
    (case k18 => k_is)
    (case a19 => k_is)
    (case l19 => k_is)
    (case c19 => k_is)
    (case k19 => k_is)
    (case a20 => k_is)
    (case l20 => k_is)
    (case c20 => k_is)
    (case k20 => k_is)
    (case a21 => k_is)
    (case l21 => k_is)
    (case c21 => k_is)
    (case k21 => k_is)
    (case a22 => k_is)
    (case l22 => k_is)
    (case c22 => k_is)
    (case k22 => k_is)
    (case a23 => k_is)
    (case l23 => k_is)
    (case c23 => k_is)
    (case k23 => k_is)
    (case a24 => k_is)
    (case l24 => k_is)
    (case c24 => k_is)
    (case k24 => k_is)
    (case a25 => k_is)
    (case l25 => k_is)
    (case c25 => k_is)
    (case k25 => k_is)
    (case a26 => k_is)
    (case l26 => k_is)
    (case c26 => k_is)
    (case k26 => k_is)
    (case a27 => k_is)
    (case l27 => k_is)
    (case c27 => k_is)
    (case k27 => k_is)
    (case a28 => k_is)
    (case l28 => k_is)
    (case c28 => k_is)
    (case k28 => k_is)
    (case u1 => k_is)
    (case v1 => k_is)
    (case w1 => k_keys)
    (case yq1 => (first | k_is | decide | rfl))
    (case i1_0 => k_is)
    (case i1_1 => k_is)
    (case i1_2 => k_is)
    (case i1_3 => k_is)
    (case i1_4 => k_is)
    (case i1_5 => k_is)
    (case i1_6 => k_is)
    (case i1_7 => k_is)
    (case i1_8 => k_is)
    (case u2 => k_is)
    (case v2 => k_is)
    (case u3 => k_is)
    (case u4 => k_is)
    (case v4 => k_is)
    (case w4 => k_keys)
    (case yq4 => (first | k_is | decide | rfl))
    (case i4_0 => k_is)
    (case i4_1 => k_is)
    (case j4 => (first | k_is | rfl))
    (case u5 => k_is)
    (case v5 => k_is)
    (case w5 => k_keys)
    (case yq5 => (first | k_is | decide | rfl))
    (case i5_0 => k_is)
    (case i5_1 => k_is)
    (case i5_2 => k_is)
    (case j5 => (first | k_is | rfl))
    (case u6 => k_is)
    (case v6 => k_is)
    (case w6 => k_keys)
    (case yq6 => (first | k_is | decide | rfl))
    (case i6_0 => k_is)
    (case i6_1 => k_is)
    (case i6_2 => k_is)
    (case i6_3 => k_is)
    (case i6_4 => k_is)
    (case i6_5 => k_is)
    (case i6_6 => k_is)
    (case i6_7 => k_is)
    (case i6_8 => k_is)
    (case u7 => k_is)
    (case v7 => k_is)
    (case u8 => k_is)
    (case z_abs => k_is)
    (case z_all => k_is)
    (case z_any => k_is)
    (case z_int => k_is)
    (case z_isinstance => k_is)
    (case z_len => k_is)
    (case z_list => k_is)
    (case z_range => k_is)
    (case z_set => k_is)
    (case z_sorted => k_is)
    (case z_str => k_is)
    (case z_tuple => k_is)
    (case z_zip => k_is)
