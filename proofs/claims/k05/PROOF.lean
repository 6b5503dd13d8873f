import PyProof.Rows.All
import Wide.All
import OpenK.AllK
import Wide.FinOn
import Lean
import PyProof.EqAt
import PyProof.EqKinds
import PyProof.TupleCall
import PyProof.ZipIter
import PyProof.Draws
import PyProof.StrWalks
import PyProof.CompFree
import PyProof.ExcArgsOwn
import PyProof.ExcAttrAll.ValueError
import PyProof.FString4
import PyProof.StrLawsRepr
import KE.KNest
import KE.KLam
import KE.KRevIter
import PyProof.CollectIter
import PyProof.JoinWalk
import PyProof.DictWalks
import PySem.Challenge.RW_turnhouse_k05_opposite_both_either
set_option Elab.async false
set_option linter.all false
set_option maxRecDepth 100000
/-! THE HAND LAYER, for ints, bools, texts, own classes, LISTS and tuples (index, slices, in, append, pop ..), calls, loops. Paste it whole ahead of your own text; what your proof does not reach may be deleted. -/
namespace L2
open PySem PySem.Spec PyProof.Rows

/-- a key: an int or a str -/
abbrev Key := Sum Int Str
def keyIs : Key → Value → Bool
  | .inl k, v => Value.isInt k v
  | .inr x, v => Value.isStrOf x v
def keyH (w : World) : Key → Int
  | .inl k => hashInt k
  | .inr x => hashStr w x
theorem keyIs_shape : ∀ {k : Key} {v : Value}, keyIs k v = true → (∃ i t, k = Sum.inl i ∧ v = Value.int i t) ∨ (∃ x t, k = Sum.inr x ∧ v = Value.str x t)
  | .inl i, v, h => by
    obtain ⟨t, e⟩ := Value.isInt_shape (k := i) (v := v) h
    exact .inl ⟨i, t, rfl, e⟩
  | .inr x, v, h => by
    obtain ⟨t, e⟩ := Value.isStrOf_shape (x := x) (v := v) h
    exact .inr ⟨x, t, rfl, e⟩
theorem keyIs_int (i : Int) (t : Tok) : keyIs (.inl i) (.int i t) = true := by simp [keyIs, Value.isInt]
theorem keyIs_str (x : Str) (t : Tok) : keyIs (.inr x) (.str x t) = true := by simp [keyIs, Value.isStrOf]
theorem key_ll (a b : Int) : decide ((Sum.inl a : Key) = Sum.inl b) = (a == b) := by
  by_cases e : a = b
  · subst e; simp
  · have h : ¬ (Sum.inl a : Key) = Sum.inl b := fun q => e (Sum.inl.inj q)
    rw [decide_eq_false h]
    exact (beq_eq_false_iff_ne.mpr e).symm
theorem key_rr (a b : Str) : decide ((Sum.inr a : Key) = Sum.inr b) = decide (a = b) := by
  by_cases e : a = b
  · subst e; simp
  · have h : ¬ (Sum.inr a : Key) = Sum.inr b := fun q => e (Sum.inr.inj q)
    rw [decide_eq_false h, decide_eq_false e]
theorem key_lr (a : Int) (b : Str) : decide ((Sum.inl a : Key) = Sum.inr b) = false := decide_eq_false (fun q => nomatch q)
theorem key_rl (a : Str) (b : Int) : decide ((Sum.inr a : Key) = Sum.inl b) = false := decide_eq_false (fun q => nomatch q)

def mixKind (prog : Program) (w : World) : PySem.KeyKind prog w Key where
  is := keyIs
  hash := keyH w
  inj := fun v a b ha hb => by
    rcases keyIs_shape ha with ⟨i, t, rfl, rfl⟩ | ⟨x, t, rfl, rfl⟩
    · rcases keyIs_shape hb with ⟨j, u, rfl, e⟩ | ⟨y, u, rfl, e⟩
      · injection e with e1 _; rw [e1]
      · exact nomatch e
    · rcases keyIs_shape hb with ⟨j, u, rfl, e⟩ | ⟨y, u, rfl, e⟩
      · exact nomatch e
      · injection e with e1 _; rw [e1]
  byValue := fun k v h => by
    rcases keyIs_shape h with ⟨i, t, rfl, rfl⟩ | ⟨x, t, rfl, rfl⟩ <;> rfl
  pyHash := fun hv h => by
    rcases keyIs_shape hv with ⟨i, t, rfl, rfl⟩ | ⟨x, t, rfl, rfl⟩
    · exact wpAny_pyHash_int h
    · exact wpAny_pyHash_str h
  eqBool := fun hu hv h => by
    rcases keyIs_shape hu with ⟨i, t, rfl, rfl⟩ | ⟨x, t, rfl, rfl⟩
    · rcases keyIs_shape hv with ⟨j, u, rfl, rfl⟩ | ⟨y, u, rfl, rfl⟩
      · rw [key_ll] at h; exact wpAny_eqBool_int h
      · rw [key_lr] at h; exact SeqAt.EqAt.int_str i t y u _ _ _ _ h
    · rcases keyIs_shape hv with ⟨j, u, rfl, rfl⟩ | ⟨y, u, rfl, rfl⟩
      · rw [key_rl] at h; exact SeqAt.EqAt.str_int x t j u _ _ _ _ h
      · rw [key_rr] at h; exact wpAny_eqBool_str h
  «strs» := fun k x t v h => by
    rcases keyIs_shape h with ⟨i, u, rfl, e⟩ | ⟨y, u, rfl, e⟩
    · exact nomatch e
    · injection e with e1 _
      subst e1
      cases v <;> rfl

theorem mixKind_is (prog : Program) (w : World) (k : Key) (v : Value) : (mixKind prog w).is k v = keyIs k v := rfl
theorem mixKind_int (prog : Program) (w : World) (i : Int) (t : Tok) : (mixKind prog w).is (.inl i) (.int i t) = true := keyIs_int i t
theorem mixKind_str (prog : Program) (w : World) (x : Str) (t : Tok) : (mixKind prog w).is (.inr x) (.str x t) = true := keyIs_str x t
end L2

namespace L2
open PySem PySem.Spec PyProof.Rows

/-- a value, without the heap -/
inductive V where
  | non | bl (b : Bool) | int (i : Int) | str (x : Str) | byt (b : Array UInt8) | flt (b : UInt64) | ref (a : Addr) | ty (n : String)
  deriving DecidableEq

def RelV : V → Value → Prop
  | .non, u => u = Value.none
  | .bl b, u => u = Value.bool b
  | .int i, u => ∃ t, u = Value.int i t
  | .str x, u => ∃ t, u = Value.str x t
  | .byt b, u => ∃ t, u = Value.bytes b t
  | .flt b, u => ∃ t, u = Value.float b t
  | .ref a, u => u = Value.ref a
  | .ty n, u => u = Value.type n

abbrev Vals : List V → List Value → Prop := Paired RelV
theorem Vals.length {xs : List V} {us : List Value} (r : Vals xs us) : xs.length = us.length := Paired.length r
theorem Vals.get : ∀ {xs : List V} {us : List Value} {i : Nat} {x : V}, Vals xs us → xs[i]? = some x → ∃ u, us[i]? = some u ∧ RelV x u
  | _, _, _, _, .nil, e => by simp at e
  | _, _, 0, _, .cons r _, e => by simp at e; subst e; exact ⟨_, rfl, r⟩
  | _, _, i + 1, x, .cons _ t, e => by
    obtain ⟨u, h1, h2⟩ := Vals.get (i := i) (x := x) t (by simpa using e)
    exact ⟨u, by simpa using h1, h2⟩
theorem Vals.set {x : V} {u : Value} (r : RelV x u) : ∀ {xs : List V} {us : List Value} (i : Nat), Vals xs us → Vals (xs.set i x) (us.set i u)
  | _, _, _, .nil => .nil
  | _, _, 0, .cons _ t => .cons r t
  | _, _, i + 1, .cons q t => .cons q (Vals.set r i t)
theorem Vals.append : ∀ {xs ys : List V} {us ws : List Value}, Vals xs us → Vals ys ws → Vals (xs ++ ys) (us ++ ws)
  | _, _, _, _, .nil, s => s
  | _, _, _, _, .cons r t, s => .cons r (Vals.append t s)
theorem Vals.take : ∀ {xs : List V} {us : List Value} (n : Nat), Vals xs us → Vals (xs.take n) (us.take n)
  | _, _, 0, _ => .nil
  | _, _, _ + 1, .nil => .nil
  | _, _, n + 1, .cons r t => .cons r (Vals.take n t)
theorem Vals.drop : ∀ {xs : List V} {us : List Value} (n : Nat), Vals xs us → Vals (xs.drop n) (us.drop n)
  | _, _, 0, r => r
  | _, _, _ + 1, .nil => .nil
  | _, _, n + 1, .cons _ t => Vals.drop n t
theorem Vals.none_of : ∀ {xs : List V} {us : List Value} {i : Nat}, Vals xs us → xs[i]? = none → us[i]? = none := fun {xs us i} r e => by
  have h1 := r.length
  have h2 : xs.length ≤ i := List.getElem?_eq_none_iff.mp e
  exact List.getElem?_eq_none_iff.mpr (by omega)

def RelO : Option V → Option Value → Prop
  | some v, some u => RelV v u
  | none, none => True
  | _, _ => False
def KV {κ : Type} : List (κ × V) → List (κ × Value) → Prop := Paired fun (p : κ × V) (q : κ × Value) => p.1 = q.1 ∧ RelV p.2 q.2

/-- a key of a dict (00_mix): an int or a text -/
def kV : Key → V
  | .inl i => .int i
  | .inr x => .str x

/-- what stands at a tracked address -/
inductive HO where
  /-- a list -/
  | lst (xs : List V)
  /-- a tuple (never changes) -/
  | tup (xs : List V)
  /-- a dict whose keys are ints and texts; one whose keys are tuples of ints and texts (the empty one is both) -/
  | dK (kvs : List (Key × V)) | dT (kvs : List (List Key × V))
  /-- a set of ints: its members, its size -/
  | set (S : Int → Bool) (n : Nat)
  /-- an instance of the class at C, its dict at dx, its attributes -/
  | ins (C dx : Addr) (fs : List (Str × V))
  /-- the dict of the instance at x -/
  | own (x : Addr)
  /-- the dict of an exception -/
  | xd (fs : List (Str × V))
  /-- a bound method, f of x -/
  | met (f x : Addr)
  /-- a range object lo, lo + 1, .. below hi -/
  | rng (lo hi : Int)
  /-- a thing that is known to the object (the script; a dict while a loop walks it): read, never written while it is so -/
  | frz (o : Obj) (u : HO)
  /-- a code object's table -/
  | tbl (ps : Array Value)
  /-- any other thing, by what is true of its one object (a def of one's own: SetO a S n := HO.ext fun h => ..) -/
  | ext (φ : Heap → Prop)

abbrev Hp := Addr → Option HO
def upd (H : Hp) (a : Addr) (o : HO) : Hp := fun b => if b = a then some o else H b
theorem upd_same {H : Hp} {a : Addr} {o : HO} : upd H a o a = some o := by unfold upd; rw [if_pos rfl]
theorem upd_ne {H : Hp} {a b : Addr} {o : HO} (h : b ≠ a) : upd H a o b = H b := by unfold upd; rw [if_neg h]
theorem upd_upd {H : Hp} {a : Addr} {o u : HO} : upd (upd H a o) a u = upd H a u := by
  funext b; unfold upd; split <;> rfl
/-- two objects of different content stand apart -/
theorem ne_of {H : Hp} {a b : Addr} {o u : HO} (h : H a = some o) (h' : H b = some u) (d : o ≠ u) : a ≠ b := by
  intro e; subst e; rw [h] at h'; exact d (Option.some.inj h')
theorem ne_of_none {H : Hp} {a b : Addr} {o : HO} (h : H a = some o) (h' : H b = none) : a ≠ b := by
  intro e; subst e; rw [h] at h'; cases h'

section
variable (P : Program) (w : World)
def ObjOk (H : Hp) (h : Heap) (a : Addr) : HO → Prop
  | .lst xs => xs.length ≤ sizeLine ∧ ∃ (its : List Value) (n : Nat), Vals xs its ∧ h.get? a = some { cls := .type "list", data := .seq its.toArray n }
  | .tup xs => xs.length ≤ sizeLine ∧ ∃ its : List Value, Vals xs its ∧ IsTup h a its.toArray
  | .dK kvs => kvs.length ≤ sizeLine ∧ (a == sysModules) = false ∧ ∃ vs, KV kvs vs ∧ h.DictOf (mixKind P w) a vs
  | .dT kvs => kvs.length ≤ sizeLine ∧ (a == sysModules) = false ∧ ∃ xs : List (List Key × Addr × Value),
      Paired (fun (p : List Key × V) (q : List Key × Addr × Value) => p.1 = q.1 ∧ H q.2.1 = some (.tup (p.1.map kV)) ∧ RelV p.2 q.2.2) kvs xs ∧
      ∃ o es ep, h.get? a = some o ∧ o.ExactDict ∧ o.data = .dict es ep ∧ es.toList = xs.map (entryOfKey (tupleKind (mixKind P w))) ∧ (xs.map (·.1)).Nodup
  | .set S n => h.SetOf (intKind P w) a S n
  | .ins C dx fs => H dx = some (.own a) ∧ fs.length ≤ 1000 ∧ dx ≠ a ∧ h.get? a = some (PySem.W.instObj C dx) ∧
      ∃ mA, h.Ns1 dx mA ∧ (∀ f, RelO (fs.lookup f) (mA f)) ∧ PySem.Within mA (fs.map (·.1))
  | .own _ => ∃ o, h.get? a = some o
  | .xd fs => ∃ mA, h.Ns1 a mA ∧ ∀ f, RelO (fs.lookup f) (mA f)
  | .rng lo hi => ∃ t u v, h.get? a = some { cls := .type "range", data := .fields #[.int lo t, .int hi u, .int 1 v] }
  | .frz o u => h.get? a = some o ∧ ObjOk H h a u
  | .tbl ps => h.get? a = some { cls := .none, data := .fields ps }
  | .met f x => h.get? a = some (PySem.W.methodObj (.ref f) (.ref x))
  | .ext φ => φ h ∧ (∃ o, h.get? a = some o) ∧ ∀ h1 h2 : Heap, φ h1 → (∀ o, h1.get? a = some o → h2.get? a = some o) → φ h2
/-- the abstract heap is held -/
def HOk (H : Hp) (h : Heap) : Prop := ∀ a o, H a = some o → ObjOk P w H h a o
end

section
variable {P : Program} {w : World} {H H' : Hp} {h h' : Heap} {a : Addr} {o : HO}
theorem ObjOk.lt (x : ObjOk P w H h a o) : a < h.objs.size := by
  cases o with
  | lst xs => obtain ⟨_, _, _, _, e⟩ := x; exact Heap.lt_size e
  | tup xs => obtain ⟨_, _, _, p⟩ := x; exact p.lt
  | dK kvs => obtain ⟨_, _, _, _, o, _, _, e, _⟩ := x; exact Heap.lt_size e
  | dT kvs => obtain ⟨_, _, _, _, o, _, _, e, _⟩ := x; exact Heap.lt_size e
  | set S n => obtain ⟨o, _, _, _, e, _⟩ := x; exact Heap.lt_size e
  | ins C dx fs => obtain ⟨_, _, _, e, _⟩ := x; exact Heap.lt_size e
  | own y => obtain ⟨_, e⟩ := x; exact Heap.lt_size e
  | xd fs => obtain ⟨_, ⟨_, _, _, e, _⟩, _⟩ := x; exact Heap.lt_size e
  | rng lo hi => obtain ⟨_, _, _, e⟩ := x; exact Heap.lt_size e
  | frz ob u => obtain ⟨e, _⟩ := x; exact Heap.lt_size e
  | tbl ps => exact Heap.lt_size (show h.get? a = some _ from x)
  | met f y => exact Heap.lt_size (show h.get? a = some _ from x)
  | ext φ => obtain ⟨_, ⟨_, e⟩, _⟩ := x; exact Heap.lt_size e
theorem Paired.mapP {α β : Type} {F G : α → β → Prop} : ∀ {l₁ : List α} {l₂ : List β}, Paired F l₁ l₂ → (∀ a b, F a b → G a b) → Paired G l₁ l₂
  | _, _, .nil, _ => .nil
  | _, _, .cons r t, f => .cons (f _ _ r) (Paired.mapP t f)
theorem Paired.imp' {α β : Type} {F G : α → β → Prop} (f : ∀ a b, F a b → G a b) {l₁ : List α} {l₂ : List β} (r : Paired F l₁ l₂) : Paired G l₁ l₂ := Paired.mapP r f
/-- what an object's description leans on: its own object, its own dict, the tuples -/
theorem ObjOk.stay (x : ObjOk P w H h a o) (k : ∀ b u, (b = a ∨ H b = some (.own a)) → h.get? b = some u → h'.get? b = some u)
    (ho : ∀ b, H b = some (.own a) → H' b = some (.own a)) (ht : ∀ b xs, H b = some (.tup xs) → H' b = some (.tup xs)) : ObjOk P w H' h' a o := by
  induction o with
  | lst xs => obtain ⟨z, its, n, r, e⟩ := x; exact ⟨z, its, n, r, k _ _ (.inl rfl) e⟩
  | tup xs => obtain ⟨z, its, r, ob, e, c⟩ := x; exact ⟨z, its, r, ob, k _ _ (.inl rfl) e, c⟩
  | dK kvs => obtain ⟨z, y, vs, r, ob, es, ep, e, c⟩ := x; exact ⟨z, y, vs, r, ob, es, ep, k _ _ (.inl rfl) e, c⟩
  | dT kvs =>
    obtain ⟨z, y, xs, r, ob, es, ep, e, c⟩ := x
    exact ⟨z, y, xs, Paired.mapP r fun p q z => ⟨z.1, ht _ _ z.2.1, z.2.2⟩, ob, es, ep, k _ _ (.inl rfl) e, c⟩
  | set S n => obtain ⟨ob, es, ep, t, e, c⟩ := x; exact ⟨ob, es, ep, t, k _ _ (.inl rfl) e, c⟩
  | ins C dx fs =>
    obtain ⟨d, z, ne, e, mA, ⟨od, es, ep, e2, c⟩, r⟩ := x
    exact ⟨ho _ d, z, ne, k _ _ (.inl rfl) e, mA, ⟨od, es, ep, k _ _ (.inr d) e2, c⟩, r⟩
  | own y => obtain ⟨ob, e⟩ := x; exact ⟨ob, k _ _ (.inl rfl) e⟩
  | xd fs => obtain ⟨mA, ⟨od, es, ep, e, c⟩, r⟩ := x; exact ⟨mA, ⟨od, es, ep, k _ _ (.inl rfl) e, c⟩, r⟩
  | rng lo hi => obtain ⟨t, u, v, e⟩ := x; exact ⟨t, u, v, k _ _ (.inl rfl) e⟩
  | frz ob u ih => obtain ⟨e, q⟩ := x; exact ⟨k _ _ (.inl rfl) e, ih q⟩
  | tbl ps =>
    have e : h.get? a = some { cls := .none, data := .fields ps } := x
    show h'.get? a = some { cls := .none, data := .fields ps }
    exact k a _ (.inl rfl) e
  | met f y =>
    have e : h.get? a = some (PySem.W.methodObj (.ref f) (.ref y)) := x
    show h'.get? a = some (PySem.W.methodObj (.ref f) (.ref y))
    exact k a _ (.inl rfl) e
  | ext φ => obtain ⟨p, ⟨o, e⟩, st⟩ := x; exact ⟨st _ _ p fun o q => k _ _ (.inl rfl) q, ⟨o, k _ _ (.inl rfl) e⟩, st⟩
theorem HOk.lt (x : HOk P w H h) (e : H a = some o) : a < h.objs.size := (x a o e).lt
theorem HOk.fresh (x : HOk P w H h) (e : h.objs.size ≤ a) : H a = none := by
  cases q : H a with
  | none => rfl
  | some u => exact absurd (Nat.lt_of_lt_of_le (x.lt q) e) (Nat.lt_irrefl _)
/-- every object of the heap is kept -/
theorem HOk.kept (x : HOk P w H h) (k : ∀ b u, h.get? b = some u → h'.get? b = some u) : HOk P w H h' := fun a o e =>
  (x a o e).stay (fun b u _ q => k b u q) (fun _ q => q) fun _ _ q => q
/-- a new object is laid and tracked -/
theorem HOk.laid (x : HOk P w H h) (k : ∀ b u, h.get? b = some u → h'.get? b = some u) (hp : h.objs.size ≤ a) (new : ObjOk P w (upd H a o) h' a o) : HOk P w (upd H a o) h' := fun b u e => by
  have hn := x.fresh hp
  by_cases hb : b = a
  · subst hb; rw [upd_same] at e; cases e; exact new
  · rw [upd_ne hb] at e
    exact (x b u e).stay (fun c v _ q => k c v q) (fun c q => by rw [upd_ne (ne_of_none q hn)]; exact q) fun c xs q => by rw [upd_ne (ne_of_none q hn)]; exact q
end

/-- what may be read as u: it is u, or a known u -/
def Rd (H : Hp) (a : Addr) (u : HO) : Prop := H a = some u ∨ ∃ o, H a = some (.frz o u)
theorem Rd.of {H : Hp} {a : Addr} {u : HO} (h : H a = some u) : Rd H a u := .inl h
theorem Rd.ok {P : Program} {w : World} {H : Hp} {h : Heap} {a : Addr} {u : HO} (r : Rd H a u) (x : HOk P w H h) : ObjOk P w H h a u := by
  rcases r with r | ⟨o, r⟩
  · exact x a u r
  · obtain ⟨_, q⟩ := x a _ r
    exact q
/-- what may be written -/
def Mut : Option HO → Prop
  | some (.lst _) => True
  | some (.dK _) => True
  | some (.dT _) => True
  | some (.set _ _) => True
  | some (.ins _ _ _) => True
  | some (.ext _) => True
  | _ => False
section
variable {P : Program} {w : World} {H : Hp} {h h' : Heap} {x e : Addr} {o' : HO}
/-- the object at e is changed: x itself, or the dict of the instance x -/
theorem HOk.write (ok : HOk P w H h) (mu : Mut (H x)) (he : e = x ∨ H e = some (.own x)) (k : ∀ b u, b ≠ e → h.get? b = some u → h'.get? b = some u) (heo : ∃ u, h'.get? e = some u)
    (new : ObjOk P w (upd H x o') h' x o') : HOk P w (upd H x o') h' := fun b u q => by
  have nown : ∀ c y, H c = some (.own y) → c ≠ x := fun c y r z => by subst z; rw [r] at mu; exact mu
  have ntup : ∀ c xs, H c = some (.tup xs) → c ≠ x := fun c xs r z => by subst z; rw [r] at mu; exact mu
  by_cases hb : b = x
  · subst hb; rw [upd_same] at q; cases q; exact new
  · rw [upd_ne hb] at q
    by_cases hbe : b = e
    · have q' : H b = some (.own x) := by
        rcases he with z | z
        · exact absurd (hbe.trans z) hb
        · rw [hbe]; exact z
      rw [q] at q'; cases q'
      obtain ⟨v, hv⟩ := heo
      exact ⟨v, by rw [hbe]; exact hv⟩
    · refine (ok b u q).stay (fun c v hc r => k c v ?_ r) (fun c r => by rw [upd_ne (nown c b r)]; exact r) fun c xs r => by rw [upd_ne (ntup c xs r)]; exact r
      rcases hc with rfl | hc
      · exact hbe
      · rintro rfl
        rcases he with z | z
        · exact nown c b hc z
        · rw [hc] at z; cases z; exact hb rfl
end

/-! ### kept unless tracked; of the frames at fs (the callers') the slots may change (an exception that passes writes there); of the records at ex (iterators) nothing is said -/
structure Un (fs ex : List Addr) (H H' : Hp) (h h' : Heap) : Prop where
  keep : ∀ b o, h.get? b = some o → H b = none → b ∉ fs → b ∉ ex → h'.get? b = some o
  slot : ∀ b o, h.get? b = some o → H b = none → b ∈ fs → b ∉ ex → ∃ sl, h'.get? b = some { o with slots := sl }
  free : ∀ b o, h.get? b = some o → H b = none → b ∉ ex → H' b = none
  there : ∀ b o, h.get? b = some o → b ∉ ex → ∃ o', h'.get? b = some o'
  tups : ∀ b xs, H b = some (.tup xs) → H' b = some (.tup xs)
  frzs : ∀ b o u, H b = some (.frz o u) → H' b = some (.frz o u)
  tbls : ∀ b ps, H b = some (.tbl ps) → ∃ more, H' b = some (.tbl (ps ++ more))
section
variable {fs fs' ex ex' : List Addr} {H H1 H2 : Hp} {h h1 h2 h' : Heap} {a x e : Addr} {o : HO}
theorem Un.any (u : Un fs ex H H1 h h1) {b : Addr} {ob : Obj} (q : h.get? b = some ob) (n : H b = none) (hx : b ∉ ex) : ∃ sl, h1.get? b = some { ob with slots := sl } := by
  by_cases hb : b ∈ fs
  · exact u.slot b ob q n hb hx
  · exact ⟨ob.slots, u.keep b ob q n hb hx⟩
theorem Un.trans (a : Un fs ex H H1 h h1) (b : Un fs ex H1 H2 h1 h2) : Un fs ex H H2 h h2 where
  keep := fun c ob q n hc hx => b.keep c ob (a.keep c ob q n hc hx) (a.free c ob q n hx) hc hx
  slot := fun c ob q n hc hx => by
    obtain ⟨sl, e1⟩ := a.slot c ob q n hc hx
    obtain ⟨sl', e2⟩ := b.slot c _ e1 (a.free c ob q n hx) hc hx
    exact ⟨sl', e2⟩
  free := fun c ob q n hx => by
    obtain ⟨o', e1⟩ := a.there c ob q hx
    exact b.free c o' e1 (a.free c ob q n hx) hx
  there := fun c ob q hx => by
    obtain ⟨o', e1⟩ := a.there c ob q hx
    exact b.there c o' e1 hx
  tups := fun c xs q => b.tups c xs (a.tups c xs q)
  frzs := fun c ob xs q => b.frzs c ob xs (a.frzs c ob xs q)
  tbls := fun c ps q => by
    obtain ⟨m1, e1⟩ := a.tbls c ps q
    obtain ⟨m2, e2⟩ := b.tbls c _ e1
    exact ⟨m1 ++ m2, by rw [e2, Array.append_assoc]⟩
theorem Un.kept (k : ∀ b u, h.get? b = some u → h'.get? b = some u) : Un fs ex H H h h' :=
  ⟨fun b ob q _ _ _ => k b ob q, fun b ob q _ _ _ => ⟨ob.slots, k b ob q⟩, fun _ _ _ n _ => n, fun b ob q _ => ⟨ob, k b ob q⟩, fun _ _ q => q, fun _ _ _ q => q, fun _ ps q => ⟨#[], by rw [q]; simp⟩⟩
theorem Un.refl : Un fs ex H H h h := Un.kept fun _ _ q => q
theorem Un.laid (k : ∀ b u, h.get? b = some u → h'.get? b = some u) (hp : h.objs.size ≤ a) (hn : H a = none) : Un fs ex H (upd H a o) h h' where
  keep := fun b u q _ _ _ => k b u q
  slot := fun b u q _ _ _ => ⟨u.slots, k b u q⟩
  free := fun b u q n _ => by rw [upd_ne (Nat.ne_of_lt (Nat.lt_of_lt_of_le (Heap.lt_size q) hp))]; exact n
  there := fun b u q _ => ⟨u, k b u q⟩
  tups := fun b xs q => by rw [upd_ne (ne_of_none q hn)]; exact q
  frzs := fun b u xs q => by rw [upd_ne (ne_of_none q hn)]; exact q
  tbls := fun b ps q => ⟨#[], by rw [upd_ne (ne_of_none q hn), q]; simp⟩
theorem Un.write (mu : Mut (H x)) (he : e = x ∨ H e = some (.own x)) (k : ∀ b u, b ≠ e → h.get? b = some u → h'.get? b = some u) (heo : ∃ u, h'.get? e = some u) : Un fs ex H (upd H x o) h h' := by
  have hx : ∀ b, H b = none → b ≠ x := fun b n z => by subst z; rw [n] at mu; exact mu
  have hb : ∀ b, H b = none → b ≠ e := fun b n z => by
    subst z
    rcases he with r | r
    · exact hx b n r
    · rw [n] at r; cases r
  have hm : ∀ b u, H b = some u → ¬ Mut (some u) → b ≠ x := fun b u q nm z => by subst z; rw [q] at mu; exact nm mu
  refine ⟨fun b u q n _ _ => k b u (hb b n) q, fun b u q n _ _ => ⟨u.slots, k b u (hb b n) q⟩, fun b u q n _ => by rw [upd_ne (hx b n)]; exact n, fun b u q _ => ?_,
    fun b xs q => by rw [upd_ne (hm b _ q fun z => z)]; exact q, fun b u xs q => by rw [upd_ne (hm b _ q fun z => z)]; exact q, fun b ps q => ⟨#[], by rw [upd_ne (hm b _ q fun z => z), q]; simp⟩⟩
  by_cases hbe : b = e
  · subst hbe; exact heo
  · exact ⟨u, k b u hbe q⟩
theorem Un.mono (u : Un fs ex H H1 h h1) (hs : ∀ b ∈ fs, b ∈ fs') (hx : ∀ b ∈ ex, b ∈ ex') : Un fs' ex' H H1 h h1 :=
  ⟨fun b ob q n hb he => u.keep b ob q n (fun z => hb (hs b z)) fun z => he (hx b z), fun _ _ q n _ he => u.any q n fun z => he (hx _ z), fun b ob q n he => u.free b ob q n fun z => he (hx b z), fun b ob q he => u.there b ob q fun z => he (hx b z), u.tups, u.frzs, u.tbls⟩
end

/-! ### the heap without what is tracked -/
def trk (h : Heap) (H : Hp) : List Addr := (List.range h.objs.size).filter fun a => (H a).isSome
def hidT (h : Heap) (H : Hp) : Heap := PySem.W.hideAll h (trk h H)
theorem hidT_size (h : Heap) (H : Hp) : (hidT h H).objs.size = h.objs.size := PySem.W.hideAll_size _ _
theorem hidT_get {h : Heap} {H : Hp} {b : Addr} {o : Obj} (e : h.get? b = some o) (n : H b = none) : (hidT h H).get? b = some o :=
  PySem.W.hideAll_get _ e fun hm => by
    have q : (H b).isSome = true := (List.mem_filter.mp hm).2
    rw [n] at q; simp at q
theorem of_hidT {h : Heap} {H : Hp} {b : Addr} {o : Obj} (e : (hidT h H).get? b = some o) : h.get? b = some o ∧ H b = none := by
  have e' : h.get? b = some o := PySem.W.of_hideAll (trk h H) e
  refine ⟨e', ?_⟩
  cases q : H b with
  | none => rfl
  | some x =>
    have hm : b ∈ trk h H := List.mem_filter.mpr ⟨List.mem_range.mpr (Heap.lt_size e'), by simp [q]⟩
    have z : (hidT h H).get? b = none := PySem.W.hideAll_none (trk h H) hm
    rw [z] at e; cases e

/-! ### OpenK's ledger, filled with every new object but one -/
def allNews (g h : Heap) (L : Addr) : List (Addr × Obj) := (List.range h.objs.size).filterMap fun a => if a = L ∨ (g.get? a).isSome = true then none else (h.get? a).map fun o => (a, o)
theorem mem_allNews {g h : Heap} {L a : Addr} {o : Obj} (h1 : a ≠ L) (h2 : g.get? a = none) (h3 : h.get? a = some o) : (a, o) ∈ allNews g h L :=
  List.mem_filterMap.mpr ⟨a, List.mem_range.mpr (Heap.lt_size h3), by simp [h1, h2, h3]⟩
theorem of_mem_allNews {g h : Heap} {L : Addr} {p : Addr × Obj} (hp : p ∈ allNews g h L) : p.1 ≠ L ∧ g.get? p.1 = none ∧ h.get? p.1 = some p.2 := by
  obtain ⟨b, _, e⟩ := List.mem_filterMap.mp hp
  split at e
  · cases e
  · rename_i hn
    cases q : h.get? b with
    | none => rw [q] at e; simp at e
    | some u =>
      rw [q] at e
      simp only [Option.map_some, Option.some.injEq] at e
      subst e
      refine ⟨fun z => hn (.inl z), ?_, q⟩
      show g.get? b = none
      cases r : g.get? b with
      | none => rfl
      | some v => exact (hn (.inr (by simp [r]))).elim
def rest (g h : Heap) (L d : Addr) : List (Addr × Obj) := (allNews g h L).filter fun p => decide (p.1 ≠ d)
theorem rest_ne {g h : Heap} {L d : Addr} : ∀ p ∈ rest g h L d, p.1 ≠ d := fun p hp => of_decide_eq_true (List.mem_filter.mp hp).2
theorem mem_rest {g h : Heap} {L d a : Addr} {o : Obj} (h1 : a ≠ L) (h2 : g.get? a = none) (h3 : h.get? a = some o) (h4 : a ≠ d) : (a, o) ∈ rest g h L d :=
  List.mem_filter.mpr ⟨mem_allNews h1 h2 h3, decide_eq_true h4⟩
theorem news_all {g h : Heap} {L : Addr} : News g L h (allNews g h L) := fun p hp => let ⟨a, b, c⟩ := of_mem_allNews hp; ⟨c, a, b⟩
theorem news_at {g h : Heap} {L d : Addr} {o : Obj} (h1 : d ≠ L) (h2 : g.get? d = none) (h3 : h.get? d = some o) : News g L h ((d, o) :: rest g h L d) := fun p hp => by
  rcases List.mem_cons.mp hp with rfl | hp
  · exact ⟨h3, h1, h2⟩
  · exact news_all p (List.mem_filter.mp hp).1
/-- behind a rule that changed d alone: all else but the frame is kept -/
theorem kept_of_news {g h h' : Heap} {L d : Addr} {m : Str → Option Value} (k : ∀ b o, g.get? b = some o → h.get? b = some o) (F : Fr g L h' m) (N : News g L h' (rest g h L d)) :
    ∀ b o, b ≠ L → b ≠ d → h.get? b = some o → h'.get? b = some o := fun b o h1 h2 e => by
  cases q : g.get? b with
  | some u =>
    have := k b u q
    rw [e] at this; cases this
    exact F.keep b _ q
  | none => exact (N (b, o) (mem_rest h1 q e h2)).1
end L2

namespace L2
open PySem PySem.Spec PyProof.Rows

/-- the module's facts, over the base: the heap at the law's entry without what is tracked there -/
structure Mod (K : PySem.W.Frag) (mg : Str → Option Value) (base : Heap) : Prop where
  kin : K.In base
  glob : base.Ns mainGlobals mg
  blt : ∃ mb, base.Ns builtinsNs mb ∧ ∀ x : Str, x ≠ "__name__" → mb x = bootBuiltins x
  nolimit : base.NoLimit

/-- the context: a def's body (or a comprehension's block) running. base: fixed through the whole law; s₀, H₀: the entry; outer: the frames whose slots others may change (a def's callers); stack: all frames that run;
   ex: iterators that were made ahead of the entry and are walked here (a comprehension's); fn: the names whose cells were made at the entry (a def: all; a comprehension's block: its own); calm: not within an except suite; pn: pins that every state bears; xe: what is wanted of an exception that leaves the code -/
structure Cx where
  prog : Program
  w : World
  K : PySem.W.Frag
  mg : Str → Option Value
  base : Heap
  A : Around
  N : List Str
  s₀ : Shared
  H₀ : Hp
  env : Env
  outer : List Env
  stack : List Env
  ex : List Addr
  fn : Str → Bool
  calm : Bool
  pn : List (Addr × Obj)
  xe : Value → Shared → Prop
/-- the callers' frames -/
def frs (l : List Env) : List Addr := l.filterMap (·.frame)
abbrev Cx.fs (X : Cx) : List Addr := frs X.outer

def Vis (sc : Scope) (x : Str) : Prop := sc.names.lookup x = some .local ∨ sc.names.lookup x = some .cell ∨ sc.names.lookup x = some .free
def Loc (sc : Scope) (x : Str) : Prop := sc.names.lookup x = some .local ∨ sc.names.lookup x = some .cell
def Look (env : Env) (h : Heap) (m : Str → Option Value) (x : Str) (u : Value) : Prop :=
  (env.kindOf x = some .local ∧ m x = some u) ∨ ((env.kindOf x = some .cell ∨ env.kindOf x = some .free) ∧ ∃ c, env.cells.lookup x = some c ∧ h.IsCell c (some u))

structure Cx.Ok (X : Cx) : Prop where
  mod : Mod X.K X.mg X.base
  kind : X.env.scope.kind = .function
  glob : X.env.globals = mainGlobals
  blt : X.env.builtins = builtinsNs
  above : X.s₀.heap.objs.size ≤ X.env.locals
  inj : ∀ x y c, X.env.cells.lookup x = some c → X.env.cells.lookup y = some c → x = y
  has : ∀ x, (X.env.kindOf x = some .cell ∨ X.env.kindOf x = some .free) → ∃ c, X.env.cells.lookup x = some c
  cab : ∀ x c, X.fn x = true → X.env.cells.lookup x = some c → X.s₀.heap.objs.size ≤ c
  hd : X.calm = true → X.A.handled = none
  frames : X.A.frames = some X.stack
  stk : X.stack = X.outer ∨ (X.stack = X.env :: X.outer ∧ X.env.frame = some X.env.locals)
  exf : ∀ b ∈ X.ex, b ≠ X.env.locals ∧ ∀ x c, X.env.cells.lookup x = some c → c ≠ b
  bs : ∀ b o, X.base.get? b = some o → X.s₀.heap.get? b = some o ∧ X.H₀ b = none
  bsz : X.base.objs.size ≤ X.s₀.heap.objs.size
  noex : ∀ b o, X.base.get? b = some o → b ∉ X.ex
  exfs : ∀ b ∈ X.ex, b ∉ X.fs
  funs : X.s₀.heap.FunFrames X.base X.outer
  frf : ∀ b ∈ X.fs, X.H₀ b = none

structure Inv (X : Cx) (pins : List (Addr × Obj)) (σ : List (Option V)) (H : Hp) (s : Shared) : Prop where
  ok : X.Ok
  os : s.os = X.s₀.os
  bare : AllBare s.gens
  base : Un X.fs X.ex X.H₀ H X.s₀.heap s.heap
  loc : ∃ m, s.heap.Ns X.env.locals m ∧ ∀ (i : Nat) (x : Str) (v : V), X.N[i]? = some x → σ[i]? = some (some v) → Vis X.env.scope x → ∃ u, RelV v u ∧ Look X.env s.heap m x u
  cell : ∀ x c, X.env.cells.lookup x = some c → ∃ v, s.heap.IsCell c v
  free : H X.env.locals = none
  freeC : ∀ x c, X.env.cells.lookup x = some c → H c = none
  pin : ∀ p ∈ X.pn ++ pins, s.heap.get? p.1 = some p.2 ∧ H p.1 = none ∧ p.1 ≠ X.env.locals ∧ p.1 ∉ X.fs ∧ ∀ v, p.2.data ≠ .cell v
  hok : HOk X.prog X.w H s.heap
  len : σ.length = X.N.length

section
variable {X : Cx} {pins : List (Addr × Obj)} {σ : List (Option V)} {H H' : Hp} {s : Shared} {h' : Heap}

theorem Cx.Ok.nofr (ok : X.Ok) {b : Addr} {o : Obj} (e : X.base.get? b = some o) : b ∉ X.fs := fun hb => by
  have := (ok.funs.mem hb).1
  rw [e] at this; cases this
theorem Inv.bs (I : Inv X pins σ H s) : ∀ b o, X.base.get? b = some o → s.heap.get? b = some o ∧ H b = none := fun b o e =>
  ⟨I.base.keep b o (I.ok.bs b o e).1 (I.ok.bs b o e).2 (I.ok.nofr e) (I.ok.noex b o e), I.base.free b o (I.ok.bs b o e).1 (I.ok.bs b o e).2 (I.ok.noex b o e)⟩
theorem Inv.bk (I : Inv X pins σ H s) : ∀ b o, X.base.get? b = some o → s.heap.get? b = some o := fun b o e => (I.bs b o e).1
theorem Inv.mod (I : Inv X pins σ H s) : Mod X.K X.mg X.base := I.ok.mod
theorem Inv.kIn (I : Inv X pins σ H s) : X.K.In s.heap := I.ok.mod.kin.keeps I.bk
theorem Inv.nolimit (I : Inv X pins σ H s) : s.heap.NoLimit := I.ok.mod.nolimit.keeps I.bk
/-- the frame over the base: for OpenK's rules (K.In X.base is I.mod.kin) -/
theorem Inv.fr (I : Inv X pins σ H s) : ∃ m, Fr X.base X.env.locals s.heap m :=
  let ⟨m, hn, _⟩ := I.loc
  ⟨m, hn, I.bk, Nat.le_trans I.ok.bsz I.ok.above⟩
theorem Inv.lt (I : Inv X pins σ H s) : X.env.locals < s.heap.objs.size := let ⟨_, hn, _⟩ := I.loc; hn.lt
theorem Inv.sz (I : Inv X pins σ H s) : X.s₀.heap.objs.size ≤ s.heap.objs.size := Nat.le_trans I.ok.above (Nat.le_of_lt I.lt)
theorem Inv.nofs (I : Inv X pins σ H s) {a : Addr} (h : s.heap.objs.size ≤ a) : a ∉ X.fs := fun hb => by
  obtain ⟨_, o, ho, _⟩ := I.ok.funs.mem hb
  exact absurd (Nat.lt_of_lt_of_le (Heap.lt_size ho) (Nat.le_trans I.sz h)) (Nat.lt_irrefl _)
theorem Inv.cne (I : Inv X pins σ H s) : ∀ x c, X.env.cells.lookup x = some c → c ≠ X.env.locals := fun x c e z => by
  obtain ⟨v, o, ho, hd⟩ := I.cell x c e
  obtain ⟨m, ⟨o', es, ep, ho', hd', _⟩, _⟩ := I.loc
  rw [z, ho'] at ho; cases ho; rw [hd'] at hd; cases hd
theorem Inv.funs (I : Inv X pins σ H s) : s.heap.FunFrames X.base X.outer := by
  have all : ∀ (l : List Env), (∀ b ∈ frs l, b ∈ X.fs) → X.s₀.heap.FunFrames X.base l → s.heap.FunFrames X.base l := by
    intro l
    induction l with
    | nil => intro _ _; trivial
    | cons env r ih =>
      intro hs hl
      obtain ⟨hk, ⟨L, o, hf, hn, ho, hd⟩, hr⟩ := hl
      have hL : L ∈ X.fs := hs L (by unfold frs; rw [List.filterMap_cons, hf]; exact List.mem_cons_self)
      obtain ⟨sl, e⟩ := I.base.slot L o ho (I.ok.frf L hL) hL fun z => I.ok.exfs L z hL
      exact ⟨hk, ⟨L, _, hf, hn, e, hd⟩, ih (fun b hb => hs b (by unfold frs; rw [List.filterMap_cons, hf]; exact List.mem_cons_of_mem _ hb)) hr⟩
  exact all X.outer (fun _ hb => hb) I.ok.funs

/-- the frames that run, for a call -/
theorem Inv.stack (I : Inv X pins σ H s) : s.heap.FunFrames X.base X.stack := by
  rcases I.ok.stk with e | ⟨e, hf⟩
  · rw [e]; exact I.funs
  · rw [e]
    obtain ⟨m, hn, _⟩ := I.loc
    refine .cons (by rw [I.ok.kind]; decide) hf hn ?_ I.funs
    exact Heap.get?_none_of_le (Nat.le_trans I.ok.bsz I.ok.above)
theorem Inv.stkSub (I : Inv X pins σ H s) : ∀ b ∈ frs X.stack, b ∈ X.env.locals :: X.fs := fun b hb => by
  rcases I.ok.stk with e | ⟨e, hf⟩
  · rw [e] at hb; exact List.mem_cons_of_mem _ hb
  · rw [e] at hb
    unfold frs at hb
    rw [List.filterMap_cons, hf] at hb
    exact hb
theorem Inv.stkFree (I : Inv X pins σ H s) : ∀ b ∈ frs X.stack, H b = none := fun b hb => by
  rcases List.mem_cons.mp (I.stkSub b hb) with e | hb
  · rw [e]; exact I.free
  · obtain ⟨_, o, ho, _⟩ := I.ok.funs.mem hb
    exact I.base.free b o ho (I.ok.frf b hb) fun z => I.ok.exfs b z hb

/-- THE STEP: the untracked objects but the frame and the records at ch are kept (the callers' frames up to slots), the frame's map is kept, the new abstract heap is held -/
theorem Inv.step {g' : Array GenState} {t' : Nat} {d' : Drawn} {ch : List Addr} (I : Inv X pins σ H s)
    (hch : ∀ b ∈ ch, (b ∈ X.ex ∨ X.s₀.heap.objs.size ≤ b) ∧ b ≠ X.env.locals ∧ (∀ x c, X.env.cells.lookup x = some c → c ≠ b) ∧ ∀ p ∈ X.pn ++ pins, p.1 ≠ b)
    (keep : ∀ b o, b ≠ X.env.locals → b ∉ X.fs → b ∉ ch → s.heap.get? b = some o → H b = none → h'.get? b = some o)
    (slot : ∀ b o, b ≠ X.env.locals → b ∈ X.fs → b ∉ ch → s.heap.get? b = some o → H b = none → ∃ sl, h'.get? b = some { o with slots := sl }) (free : ∀ b o, b ∉ ch → s.heap.get? b = some o → H b = none → H' b = none)
    (there : ∀ b o, b ∉ ch → s.heap.get? b = some o → ∃ o', h'.get? b = some o')
    (tups : ∀ b xs, H b = some (.tup xs) → H' b = some (.tup xs)) (frzs : ∀ b o u, H b = some (.frz o u) → H' b = some (.frz o u)) (tbls : ∀ b ps, H b = some (.tbl ps) → ∃ more, H' b = some (.tbl (ps ++ more)))
    (ns : ∀ m, s.heap.Ns X.env.locals m → h'.Ns X.env.locals m) (hok : HOk X.prog X.w H' h') (hg : AllBare g') :
    Inv X pins σ H' { s with heap := h', gens := g', drawn := d', toks := t' } := by
  have neL : ∀ b o, X.s₀.heap.get? b = some o → b ≠ X.env.locals := fun b o e => Nat.ne_of_lt (Nat.lt_of_lt_of_le (Heap.lt_size e) I.ok.above)
  have neC : ∀ b o, X.s₀.heap.get? b = some o → b ∉ X.ex → b ∉ ch := fun b o e hx hb => by
    rcases (hch b hb).1 with z | z
    · exact hx z
    · exact absurd (Nat.lt_of_lt_of_le (Heap.lt_size e) z) (Nat.lt_irrefl _)
  have cellK : ∀ x c, X.env.cells.lookup x = some c → ∀ v, s.heap.IsCell c v → h'.IsCell c v := fun x c e v ⟨o, ho, hd⟩ => by
    have nch : c ∉ ch := fun z => (hch c z).2.2.1 x c e rfl
    by_cases hc : c ∈ X.fs
    · obtain ⟨sl, q⟩ := slot c o (I.cne x c e) hc nch ho (I.freeC x c e)
      exact ⟨_, q, hd⟩
    · exact ⟨o, keep c o (I.cne x c e) hc nch ho (I.freeC x c e), hd⟩
  refine ⟨I.ok, I.os, hg, ⟨fun b o e n hb hx => ?_, fun b o e n hb hx => ?_, fun b o e n hx => ?_, fun b o e hx => ?_, fun b xs e => tups b xs (I.base.tups b xs e), fun b o xs e => frzs b o xs (I.base.frzs b o xs e), fun b ps e => ?_⟩, ?_, fun x c e => ?_, ?_, fun x c e => ?_, fun p hp => ?_, hok, I.len⟩
  · exact keep b o (neL b o e) hb (neC b o e hx) (I.base.keep b o e n hb hx) (I.base.free b o e n hx)
  · obtain ⟨sl, e1⟩ := I.base.slot b o e n hb hx
    obtain ⟨sl', e2⟩ := slot b _ (neL b o e) hb (neC b o e hx) e1 (I.base.free b o e n hx)
    exact ⟨sl', e2⟩
  · obtain ⟨o', e1⟩ := I.base.there b o e hx
    exact free b o' (neC b o e hx) e1 (I.base.free b o e n hx)
  · obtain ⟨o', e1⟩ := I.base.there b o e hx
    exact there b o' (neC b o e hx) e1
  · obtain ⟨m1, e1⟩ := I.base.tbls b ps e
    obtain ⟨m2, e2⟩ := tbls b _ e1
    exact ⟨m1 ++ m2, by rw [e2, Array.append_assoc]⟩
  · obtain ⟨m, hn, hl⟩ := I.loc
    refine ⟨m, ns m hn, fun i x v e1 e2 e3 => ?_⟩
    obtain ⟨u, r, l⟩ := hl i x v e1 e2 e3
    refine ⟨u, r, ?_⟩
    rcases l with l | ⟨k, c, e, z⟩
    · exact .inl l
    · exact .inr ⟨k, c, e, cellK x c e _ z⟩
  · obtain ⟨v, z⟩ := I.cell x c e
    exact ⟨v, cellK x c e v z⟩
  · obtain ⟨m, ⟨o, _, _, ho, _⟩, _⟩ := I.loc
    exact free _ o (fun z => (hch _ z).2.1 rfl) ho I.free
  · obtain ⟨v, o, ho, hd⟩ := I.cell x c e
    exact free c o (fun z => (hch c z).2.2.1 x c e rfl) ho (I.freeC x c e)
  · obtain ⟨e, n, ne, nf, d⟩ := I.pin p hp
    have nch : p.1 ∉ ch := fun z => (hch p.1 z).2.2.2 p hp rfl
    exact ⟨keep p.1 p.2 ne nf nch e n, free p.1 p.2 nch e n, ne, nf, d⟩
/-- .. where the frame's own object is kept too -/
theorem Inv.un {t' : Nat} (I : Inv X pins σ H s) (u : Un X.fs [] H H' s.heap h') (hok : HOk X.prog X.w H' h') : Inv X pins σ H' { s with heap := h', toks := t' } := by
  obtain ⟨m, ⟨o, es, ep, ho, r⟩, _⟩ := id I.loc
  obtain ⟨sl, hL⟩ := u.any ho I.free (by simp)
  exact I.step (g' := s.gens) (d' := s.drawn) (ch := []) (fun _ z => nomatch z) (fun b o _ hb _ e n => u.keep b o e n hb (by simp)) (fun b o _ hb _ e n => u.slot b o e n hb (by simp)) (fun b o _ e n => u.free b o e n (by simp)) (fun b o _ e => u.there b o e (by simp)) u.tups u.frzs u.tbls (fun m' hm => by
    obtain ⟨o', es', ep', ho', r'⟩ := hm
    rw [ho] at ho'; cases ho'
    exact ⟨_, es', ep', hL, r'⟩) hok I.bare
/-- behind a call (or a comprehension's block): the slots of this frame may have changed too, the records at ch may have turned -/
theorem Inv.call {g' : Array GenState} {t' : Nat} {d' : Drawn} {ch : List Addr} (I : Inv X pins σ H s) (u : Un (frs X.stack) ch H H' s.heap h') (hok : HOk X.prog X.w H' h') (hg : AllBare g')
    (hch : ∀ b ∈ ch, (b ∈ X.ex ∨ X.s₀.heap.objs.size ≤ b) ∧ b ≠ X.env.locals ∧ (∀ x c, X.env.cells.lookup x = some c → c ≠ b) ∧ ∀ p ∈ X.pn ++ pins, p.1 ≠ b) :
    Inv X pins σ H' { s with heap := h', gens := g', drawn := d', toks := t' } := by
  obtain ⟨m, ⟨o, es, ep, ho, r⟩, _⟩ := id I.loc
  obtain ⟨sl, hL⟩ := u.any ho I.free fun z => (hch _ z).2.1 rfl
  exact I.step (ch := ch) hch (fun b o hL hb hc e n => u.keep b o e n (fun z => (List.mem_cons.mp (I.stkSub b z)).elim hL hb) hc) (fun b o _ _ hc e n => u.any e n hc) (fun b o hc e n => u.free b o e n hc) (fun b o hc e => u.there b o e hc) u.tups u.frzs u.tbls (fun m' hm => by
    obtain ⟨o', es', ep', ho', r'⟩ := hm
    rw [ho] at ho'; cases ho'
    exact ⟨_, es', ep', hL, r'⟩) hok hg
/-- an untracked record of ours (an iterator) has turned -/
theorem Inv.turned {t' : Nat} {it : Addr} (I : Inv X pins σ H s) (k : ∀ b o, b ≠ it → s.heap.get? b = some o → h'.get? b = some o) (hn : H it = none) (hL : it ≠ X.env.locals)
    (h1 : it ∈ X.ex ∨ X.s₀.heap.objs.size ≤ it) (h2 : ∀ x c, X.env.cells.lookup x = some c → c ≠ it) (h3 : ∀ p ∈ X.pn ++ pins, p.1 ≠ it) : Inv X pins σ H { s with heap := h', toks := t' } := by
  have nit : ∀ b u, H b = some u → b ≠ it := fun b u e z => by rw [z, hn] at e; cases e
  refine I.step (g' := s.gens) (d' := s.drawn) (ch := [it]) (fun b hb => ?_) (fun b o _ _ hc e _ => k b o (fun z => hc (by simp [z])) e) (fun b o _ _ hc e _ => ⟨o.slots, k b o (fun z => hc (by simp [z])) e⟩) (fun _ _ _ _ n => n)
    (fun b o hc e => ⟨o, k b o (fun z => hc (by simp [z])) e⟩) (fun _ _ e => e) (fun _ _ _ e => e) (fun b ps e => ⟨#[], by rw [e]; simp⟩) (fun m hm => ?_) (fun b u e => ?_) I.bare
  · have e : b = it := by simpa using hb
    subst e
    exact ⟨h1, hL, h2, h3⟩
  · obtain ⟨o, es, ep, ho, r⟩ := hm
    exact ⟨o, es, ep, k _ o (Ne.symm hL) ho, r⟩
  · refine (I.hok b u e).stay (fun c v hc q => k c v ?_ q) (fun _ q => q) fun _ _ q => q
    rcases hc with z | z
    · rw [z]; exact nit b u e
    · exact nit c _ z
theorem Inv.tok (I : Inv X pins σ H s) (t : Nat) : Inv X pins σ H { s with toks := t } := I.un (h' := s.heap) (t' := t) Un.refl I.hok
/-- all objects kept -/
theorem Inv.kept {t' : Nat} (I : Inv X pins σ H s) (k : ∀ b u, s.heap.get? b = some u → h'.get? b = some u) : Inv X pins σ H { s with heap := h', toks := t' } := I.un (Un.kept k) (I.hok.kept k)
/-- a new object laid and tracked -/
theorem Inv.laid {a : Addr} {o : HO} {t' : Nat} (I : Inv X pins σ H s) (k : ∀ b u, s.heap.get? b = some u → h'.get? b = some u) (hp : s.heap.objs.size ≤ a) (new : ObjOk X.prog X.w (upd H a o) h' a o) :
    Inv X pins σ (upd H a o) { s with heap := h', toks := t' } := I.un (Un.laid k hp (I.hok.fresh hp)) (I.hok.laid k hp new)
/-- an object written -/
theorem Inv.write {x e : Addr} {o : HO} {t' : Nat} (I : Inv X pins σ H s) (mu : Mut (H x)) (he : e = x ∨ H e = some (.own x)) (k : ∀ b u, b ≠ e → s.heap.get? b = some u → h'.get? b = some u) (heo : ∃ u, h'.get? e = some u)
    (new : ObjOk X.prog X.w (upd H x o) h' x o) : Inv X pins σ (upd H x o) { s with heap := h', toks := t' } := I.un (Un.write mu he k heo) (I.hok.write mu he k heo new)
/-- forgetting slots, pins -/
theorem Inv.weak {σ' : List (Option V)} (I : Inv X pins σ H s) (hl : σ'.length = σ.length) (w : ∀ (i : Nat) v, σ'[i]? = some (some v) → σ[i]? = some (some v)) : Inv X pins σ' H s :=
  ⟨I.ok, I.os, I.bare, I.base, let ⟨m, hn, hl'⟩ := I.loc; ⟨m, hn, fun i x v e1 e2 e3 => hl' i x v e1 (w i v e2) e3⟩, I.cell, I.free, I.freeC, I.pin, I.hok, hl.trans I.len⟩
theorem Inv.pins_of {pins' : List (Addr × Obj)} (I : Inv X pins σ H s) (h : ∀ p ∈ pins', s.heap.get? p.1 = some p.2 ∧ H p.1 = none ∧ p.1 ≠ X.env.locals ∧ p.1 ∉ X.fs ∧ ∀ v, p.2.data ≠ .cell v) : Inv X pins' σ H s :=
  ⟨I.ok, I.os, I.bare, I.base, I.loc, I.cell, I.free, I.freeC, fun p hp => (List.mem_append.mp hp).elim (fun z => I.pin p (List.mem_append_left _ z)) (h p), I.hok, I.len⟩

theorem nodup_ix {N : List Str} (hN : N.Nodup) {i j : Nat} {x : Str} (a : N[i]? = some x) (b : N[j]? = some x) : i = j := by
  obtain ⟨h1, e1⟩ := List.getElem?_eq_some_iff.mp a
  obtain ⟨h2, e2⟩ := List.getElem?_eq_some_iff.mp b
  exact (List.getElem_inj hN).mp (e1.trans e2.symm)

/-- a name is stored; what changed -/
theorem store_ok2 {M : Model} {A : Around} {E : Value → Shared → Prop} {i : Nat} {x : Str} {v : V} {u : Value} {Q : Unit → Shared → Prop} (I : Inv X pins σ H s) (hN : X.N.Nodup) (hi : X.N[i]? = some x) (hx : Loc X.env.scope x) (r : RelV v u)
    (h : ∀ s', Inv X pins (σ.set i (some v)) H s' → (∃ a, Heap.SameBut a s.heap s'.heap ∧ (a = X.env.locals ∨ X.env.cells.lookup x = some a)) → Q () s') (hf : X.fn x = true ∨ X.env.scope.names.lookup x = some .local := by first | exact .inl rfl | exact .inr rfl | assumption) : wpAny M A (storeName X.env x u) Q E s := by
  obtain ⟨m, hn, hl⟩ := id I.loc
  have hcls : (X.env.scope.kind == .class || (X.env.scope.kind == .module && X.env.locals != X.env.globals)) = false := by rw [I.ok.kind]; rfl
  have hiσ : i < σ.length := by rw [I.len]; exact (List.getElem?_eq_some_iff.mp hi).1
  have cne := I.cne
  have tracked : ∀ {a : Addr} {h' : Heap}, (∃ o, s.heap.get? a = some o ∧ H a = none) → Heap.SameBut a s.heap h' → HOk X.prog X.w H h' := fun {a h'} ha hs b ob e => by
    obtain ⟨_, _, hfree⟩ := ha
    refine (I.hok b ob e).stay (fun c w' hc q => (hs.2 c ?_).trans q) (fun _ q => q) fun _ _ q => q
    rintro rfl
    rcases hc with rfl | hc
    · rw [hfree] at e; cases e
    · rw [hfree] at hc; cases hc
  rcases hx with hk | hk
  · refine wpAny_storeName_local hk hn (fun h' hn' hs => ?_) hcls
    obtain ⟨oL, _, _, hoL, _⟩ := id hn
    refine h _ ⟨I.ok, I.os, I.bare, ⟨fun b o e n hb hx => ?_, fun b o e n hb hx => ?_, I.base.free, fun b o e hx => ?_, I.base.tups, I.base.frzs, I.base.tbls⟩, ⟨_, hn', fun j y v' e1 e2 e3 => ?_⟩, fun y c e => ?_, I.free, I.freeC, fun p hp => ?_, tracked ⟨oL, hoL, I.free⟩ hs, by simpa using I.len⟩ ⟨_, hs, .inl rfl⟩
    · exact (hs.2 b (Nat.ne_of_lt (Nat.lt_of_lt_of_le (Heap.lt_size e) I.ok.above))).trans (I.base.keep b o e n hb hx)
    · obtain ⟨sl, e1⟩ := I.base.slot b o e n hb hx
      exact ⟨sl, (hs.2 b (Nat.ne_of_lt (Nat.lt_of_lt_of_le (Heap.lt_size e) I.ok.above))).trans e1⟩
    · obtain ⟨o', e1⟩ := I.base.there b o e hx
      exact ⟨o', (hs.2 b (Nat.ne_of_lt (Nat.lt_of_lt_of_le (Heap.lt_size e) I.ok.above))).trans e1⟩
    · by_cases hj : j = i
      · subst hj
        rw [hi] at e1; cases e1
        rw [List.getElem?_set_self hiσ] at e2
        cases e2
        exact ⟨u, r, .inl ⟨hk, by simp⟩⟩
      · rw [List.getElem?_set_ne (Ne.symm hj)] at e2
        obtain ⟨u', r', q⟩ := hl j y v' e1 e2 e3
        refine ⟨u', r', ?_⟩
        rcases q with ⟨k, e⟩ | ⟨k, c, e, z⟩
        · refine .inl ⟨k, ?_⟩
          have : y ≠ x := fun e => hj (nodup_ix hN e1 (e ▸ hi))
          simp [this, e]
        · exact .inr ⟨k, c, e, z.sameBut hs (cne y c e)⟩
    · obtain ⟨w', z⟩ := I.cell y c e
      exact ⟨w', z.sameBut hs (cne y c e)⟩
    · obtain ⟨e, n, ne, nf, d⟩ := I.pin p hp
      exact ⟨(hs.2 p.1 ne).trans e, n, ne, nf, d⟩
  · have hfn : X.fn x = true := by
      rcases hf with z | z
      · exact z
      · rw [z] at hk; cases hk
    obtain ⟨c, hc⟩ := I.ok.has x (.inl hk)
    obtain ⟨w', z⟩ := I.cell x c hc
    refine wpAny_storeName_cell I.ok.kind hk hc z (fun h' hc' hs => ?_)
    obtain ⟨oc, hoc, hocd⟩ := id z
    refine h { s with heap := h' } ⟨I.ok, I.os, I.bare, ⟨fun b o e n hb hx => ?_, fun b o e n hb hx => ?_, I.base.free, fun b o e hx => ?_, I.base.tups, I.base.frzs, I.base.tbls⟩, ⟨m, hn.sameBut hs (Ne.symm (cne x c hc)), fun j y v' e1 e2 e3 => ?_⟩, fun y c' e => ?_, I.free, I.freeC, fun p hp => ?_, tracked ⟨oc, hoc, I.freeC x c hc⟩ hs, by simpa using I.len⟩ ⟨c, hs, .inr hc⟩
    · exact (hs.2 b (Nat.ne_of_lt (Nat.lt_of_lt_of_le (Heap.lt_size e) (I.ok.cab x c hfn hc)))).trans (I.base.keep b o e n hb hx)
    · obtain ⟨sl, e1⟩ := I.base.slot b o e n hb hx
      exact ⟨sl, (hs.2 b (Nat.ne_of_lt (Nat.lt_of_lt_of_le (Heap.lt_size e) (I.ok.cab x c hfn hc)))).trans e1⟩
    · obtain ⟨o', e1⟩ := I.base.there b o e hx
      exact ⟨o', (hs.2 b (Nat.ne_of_lt (Nat.lt_of_lt_of_le (Heap.lt_size e) (I.ok.cab x c hfn hc)))).trans e1⟩
    · by_cases hj : j = i
      · subst hj
        rw [hi] at e1; cases e1
        rw [List.getElem?_set_self hiσ] at e2
        cases e2
        exact ⟨u, r, .inr ⟨.inl hk, c, hc, hc'⟩⟩
      · rw [List.getElem?_set_ne (Ne.symm hj)] at e2
        obtain ⟨u', r', q⟩ := hl j y v' e1 e2 e3
        refine ⟨u', r', ?_⟩
        rcases q with q | ⟨k, c', e, z'⟩
        · exact .inl q
        · refine .inr ⟨k, c', e, z'.sameBut hs ?_⟩
          rintro rfl
          exact hj (nodup_ix hN e1 (I.ok.inj _ _ _ e hc ▸ hi))
    · by_cases hcc : c' = c
      · subst hcc; exact ⟨_, hc'⟩
      · obtain ⟨w2, z2⟩ := I.cell y c' e
        exact ⟨w2, z2.sameBut hs hcc⟩
    · obtain ⟨e, n, ne, nf, d⟩ := I.pin p hp
      refine ⟨(hs.2 p.1 ?_).trans e, n, ne, nf, d⟩
      intro q
      rw [q, hoc] at e
      have q' : oc = p.2 := Option.some.inj e
      exact d w' (by rw [← q']; exact hocd)
theorem store_ok {M : Model} {A : Around} {E : Value → Shared → Prop} {i : Nat} {x : Str} {v : V} {u : Value} {Q : Unit → Shared → Prop} (I : Inv X pins σ H s) (hN : X.N.Nodup) (hi : X.N[i]? = some x) (hx : Loc X.env.scope x) (r : RelV v u)
    (h : ∀ s', Inv X pins (σ.set i (some v)) H s' → Q () s') (hf : X.fn x = true ∨ X.env.scope.names.lookup x = some .local := by first | exact .inl rfl | exact .inr rfl | assumption) : wpAny M A (storeName X.env x u) Q E s :=
  store_ok2 I hN hi hx r (fun s' I' _ => h s' I') hf
/-- behind a call or a block, the state as it is -/
theorem Inv.call' {s' : Shared} {ch : List Addr} (I : Inv X pins σ H s) (ho : s'.os = s.os) (u : Un (frs X.stack) ch H H' s.heap s'.heap) (hok : HOk X.prog X.w H' s'.heap) (hg : AllBare s'.gens)
    (hch : ∀ b ∈ ch, (b ∈ X.ex ∨ X.s₀.heap.objs.size ≤ b) ∧ b ≠ X.env.locals ∧ (∀ x c, X.env.cells.lookup x = some c → c ≠ b) ∧ ∀ p ∈ X.pn ++ pins, p.1 ≠ b) : Inv X pins σ H' s' := by
  obtain ⟨h', g', d', t', o'⟩ := s'
  have e : o' = s.os := ho
  subst e
  exact I.call (g' := g') (t' := t') (d' := d') u hok hg hch
end

/-! ### the judgements -/
/-- an exception: its class, its own dict's address (where it has one), the abstract heap behind it -/
abbrev XK := Value → Option Addr → Hp → Prop
abbrev St := List (Option V)
abbrev VK := V → Hp → Prop
/-- an expression's reading; a test's; an argument list's -/
abbrev TE := St → Hp → VK → Prop
abbrev TT := St → Hp → (Bool → Hp → Prop) → Prop
abbrev TA := St → Hp → (List V → Hp → Prop) → Prop
/-- what is wanted behind a statement -/
structure Ends where
  nx : St → Hp → Prop
  rt : VK
  bk : St → Hp → Prop := fun _ _ => False
  ct : St → Hp → Prop := fun _ _ => False
abbrev TS := Ends → St → Hp → Prop

def EP (X : Cx) (pins : List (Addr × Obj)) (σ : St) (Q : VK) (u : Value) (s' : Shared) : Prop := ∃ v H', Inv X pins σ H' s' ∧ RelV v u ∧ Q v H'
def TP (X : Cx) (pins : List (Addr × Obj)) (σ : St) (Q : Bool → Hp → Prop) (b : Bool) (s' : Shared) : Prop := ∃ H', Inv X pins σ H' s' ∧ Q b H'
def AP (X : Cx) (pins : List (Addr × Obj)) (σ : St) (Q : List V → Hp → Prop) (us : List Value) (s' : Shared) : Prop := ∃ vs H', Inv X pins σ H' s' ∧ Vals vs us ∧ Q vs H'
def SP (X : Cx) (pins : List (Addr × Obj)) (D : Ends) (f : Flow) (s' : Shared) : Prop :=
  match f with
  | .next => ∃ σ' H', Inv X pins σ' H' s' ∧ D.nx σ' H'
  | .brk => ∃ σ' H', Inv X pins σ' H' s' ∧ D.bk σ' H'
  | .cont => ∃ σ' H', Inv X pins σ' H' s' ∧ D.ct σ' H'
  | .ret u => ∃ v σ' H', Inv X pins σ' H' s' ∧ RelV v u ∧ D.rt v H'

def PE (X : Cx) (e : Expr) (t : TE) : Prop :=
  ∀ (pins : List (Addr × Obj)) (s : Shared) (σ : St) (H : Hp) (Q : VK), Inv X pins σ H s → t σ H Q → wpAny (model X.prog X.w) X.A (eval e X.env) (EP X pins σ Q) X.xe s
def PT (X : Cx) (e : Expr) (t : TT) : Prop :=
  ∀ (pins : List (Addr × Obj)) (s : Shared) (σ : St) (H : Hp) (Q : Bool → Hp → Prop), Inv X pins σ H s → t σ H Q → wpAny (model X.prog X.w) X.A (isTrue e X.env (eval e X.env)) (TP X pins σ Q) X.xe s
/-- a test whatever its 'whole' is (and, or) -/
def PW (X : Cx) (e : Expr) (t : TT) : Prop :=
  ∀ (whole : Sem Value) (pins : List (Addr × Obj)) (s : Shared) (σ : St) (H : Hp) (Q : Bool → Hp → Prop), Inv X pins σ H s → t σ H Q → wpAny (model X.prog X.w) X.A (isTrue e X.env whole) (TP X pins σ Q) X.xe s
theorem PW.pt {X : Cx} {e : Expr} {t : TT} (h : PW X e t) : PT X e t := h _
/-- an argument list (no star), from the left -/
def PA (X : Cx) (es : List Expr) (t : TA) : Prop :=
  ∀ (pos : Pos) (pins : List (Addr × Obj)) (s : Shared) (σ : St) (H : Hp) (Q : List V → Hp → Prop), Inv X pins σ H s → t σ H Q → wpAny (model X.prog X.w) X.A (spliced (backTo pos (starEach es X.env))) (AP X pins σ Q) X.xe s
def PS (X : Cx) (st : Stmt) (t : TS) : Prop :=
  ∀ (pins : List (Addr × Obj)) (s : Shared) (σ : St) (H : Hp) (D : Ends), Inv X pins σ H s → t D σ H → wpAny (model X.prog X.w) X.A (exec st X.env) (SP X pins D) X.xe s
def PSs (X : Cx) (st : List Stmt) (t : TS) : Prop :=
  ∀ (pins : List (Addr × Obj)) (s : Shared) (σ : St) (H : Hp) (D : Ends), Inv X pins σ H s → t D σ H → wpAny (model X.prog X.w) X.A (execs st X.env) (SP X pins D) X.xe s
/-- weaken the end -/
theorem thn {α : Type} {t : Sem α} {Q Q' : α → Shared → Prop} {M : Model} {A : Around} {E : Value → Shared → Prop} {s : Shared} (h : wpAny M A t Q E s) (hQ : ∀ a s, Q a s → Q' a s) : wpAny M A t Q' E s := wpAny_mono h hQ fun _ _ x => x
end L2

namespace L2
open PySem PySem.Spec PyProof.Rows
section
variable {X : Cx}

/-- two expressions in a row -/
theorem bin {a b : Expr} {ta tb : TE} (ha : PE X a ta) (hb : PE X b tb) {pins : List (Addr × Obj)} {s : Shared} {σ : St} {H : Hp} {R : V → V → Hp → Prop} (I : Inv X pins σ H s) (h : ta σ H fun x H1 => tb σ H1 fun y H2 => R x y H2)
    {α : Type} {Q : α → Shared → Prop} {f : Value → Value → Sem α}
    (hf : ∀ v u s2 x y H2, Inv X pins σ H2 s2 → RelV x v → RelV y u → R x y H2 → wpAny (model X.prog X.w) X.A (f v u) Q X.xe s2) :
    wpAny (model X.prog X.w) X.A (eval a X.env) (fun v s₁ => wpAny (model X.prog X.w) X.A (eval b X.env) (fun u s₂ => wpAny (model X.prog X.w) X.A (f v u) Q X.xe s₂) X.xe s₁) X.xe s := by
  refine thn (ha pins s σ H _ I h) fun v s1 ⟨x, H1, I1, r1, q1⟩ => ?_
  refine thn (hb pins s1 σ H1 _ I1 q1) fun u s2 ⟨y, H2, I2, r2, q2⟩ => ?_
  exact hf v u s2 x y H2 I2 r1 r2 q2

/-! ### names and constants -/
def tVar (i : Nat) : TE := fun σ H Q => ∃ v, σ[i]? = some (some v) ∧ Q v H
def tC (v : V) : TE := fun _ H Q => Q v H
theorem pe_var {i : Nat} {x : Str} {pos : Pos} (hN : X.N[i]? = some x) (hv : Vis X.env.scope x) (hd : (x == ("__debug__" : Str)) = false := by decide) (hcd : (x == ("__classdict__" : Str)) = false := by decide) : PE X (.Name x pos) (tVar i) := by
  intro pins s σ H Q I h
  obtain ⟨v, e, h⟩ := h
  obtain ⟨m, hn, hl⟩ := I.loc
  obtain ⟨u, r, l⟩ := hl i x v hN e hv
  have fin : EP X pins σ Q u s := ⟨v, H, I, r, h⟩
  rcases l with ⟨hk, hm⟩ | ⟨hk, c, hc, hcell⟩
  · exact wpAny_Name (wpAny_loadName_local I.ok.kind hk hn hm fin) hd
  · rcases hk with hk | hk
    · exact wpAny_Name (wpAny_loadName_cell I.ok.kind hk hc hcell fin) hd
    · exact wpAny_Name (wpAny_loadName_free I.ok.kind hk hc hcell fin hcd) hd
theorem pe_int {i j pos} : PE X (.Constant (.int i) j pos) (tC (.int i)) := fun _ _ _ H _ I h => wpAny_Constant_int ⟨.int i, H, I.tok _, ⟨_, rfl⟩, h⟩
theorem pe_bl {b j pos} : PE X (.Constant (.bool b) j pos) (tC (.bl b)) := fun _ _ _ H _ I h => Constant_bool ⟨.bl b, H, I, rfl, h⟩
theorem pe_non {j pos} : PE X (.Constant .none j pos) (tC .non) := fun _ _ _ H _ I h => Constant_none ⟨.non, H, I, rfl, h⟩
theorem pe_str {x j pos} : PE X (.Constant (.str x) j pos) (tC (.str x)) := fun _ _ _ H _ I h => Calls.Constant_str ⟨.str x, H, I.tok _, ⟨_, rfl⟩, h⟩

/-- a global name of the def -/
def Gl (X : Cx) (x : Str) : Prop := X.env.kindOf x = some .globalImplicit
theorem ld_glob {E : Value → Shared → Prop} {pins : List (Addr × Obj)} {s : Shared} {σ : St} {H : Hp} {x : Str} {u : Value} {pos : Pos} {Q : Value → Shared → Prop} (I : Inv X pins σ H s) (hg : Gl X x) (hm : X.mg x = some u) (h : Q u s)
    (hd : (x == ("__debug__" : Str)) = false := by decide) : wpAny (model X.prog X.w) X.A (eval (.Name x pos) X.env) Q E s :=
  Calls.Name_function_global I.ok.kind hg (Calls.loadGlobal_global (by rw [I.ok.glob]; exact I.mod.glob.keeps I.bk) hm h) hd
theorem ld_blt {E : Value → Shared → Prop} {pins : List (Addr × Obj)} {s : Shared} {σ : St} {H : Hp} {x : Str} {u : Value} {pos : Pos} {Q : Value → Shared → Prop} (I : Inv X pins σ H s) (hg : Gl X x) (hm : X.mg x = none) (hv : bootBuiltins x = some u) (h : Q u s)
    (hn : x ≠ "__name__" := by decide) (hd : (x == ("__debug__" : Str)) = false := by decide) : wpAny (model X.prog X.w) X.A (eval (.Name x pos) X.env) Q E s := by
  obtain ⟨mb, h1, h2⟩ := I.mod.blt
  exact Calls.Name_function_global I.ok.kind hg (Calls.loadGlobal_builtin (by rw [I.ok.glob]; exact I.mod.glob.keeps I.bk) hm (by rw [I.ok.blt]; exact h1.keeps I.bk) ((h2 x hn).trans hv) h) hd
/-- a module's constant, a class, a function, as a value -/
theorem pe_glob {x : Str} {v : V} {u : Value} {pos : Pos} (hg : Gl X x) (hm : X.mg x = some u) (r : RelV v u) (hd : (x == ("__debug__" : Str)) = false := by decide) : PE X (.Name x pos) (tC v) :=
  fun _ _ _ H _ I h => ld_glob I hg hm ⟨v, H, I, r, h⟩ hd
theorem pe_bltn {x : Str} {v : V} {u : Value} {pos : Pos} (hg : Gl X x) (hm : X.mg x = none) (hv : bootBuiltins x = some u) (r : RelV v u) (hn : x ≠ "__name__" := by decide) (hd : (x == ("__debug__" : Str)) = false := by decide) : PE X (.Name x pos) (tC v) :=
  fun _ _ _ H _ I h => ld_blt I hg hm hv ⟨v, H, I, r, h⟩ hn hd

/-! ### arithmetic -/
/-- two ints -/
def t2I (ta tb : TE) (k : Int → Int → Hp → Prop) : St → Hp → Prop := fun σ H => ta σ H fun x H1 => tb σ H1 fun y H2 => ∃ i j, x = .int i ∧ y = .int j ∧ k i j H2
def tAdd (ta tb : TE) : TE := fun σ H Q => t2I ta tb (fun i j H2 => Q (.int (i + j)) H2) σ H
def tSub (ta tb : TE) : TE := fun σ H Q => t2I ta tb (fun i j H2 => Q (.int (i - j)) H2) σ H
/-- the left factor below 2^64 -/
def tMul (ta tb : TE) : TE := fun σ H Q => t2I ta tb (fun i j H2 => (-(2 ^ 64) < i ∧ i < 2 ^ 64) ∧ Q (.int (i * j)) H2) σ H
variable {a b : Expr} {ta tb : TE} {pos : Pos}
theorem pe_add (ha : PE X a ta) (hb : PE X b tb) : PE X (.BinOp a .Add b pos) (tAdd ta tb) := by
  intro pins s σ H Q I h
  refine wpAny_BinOp (bin ha hb I h fun v u s2 x y H2 I2 rx ry q => ?_)
  obtain ⟨i, j, rfl, rfl, q⟩ := q
  obtain ⟨t, rfl⟩ := rx
  obtain ⟨t', rfl⟩ := ry
  exact add_int ⟨.int _, H2, I2.tok _, ⟨_, rfl⟩, q⟩
theorem pe_sub (ha : PE X a ta) (hb : PE X b tb) : PE X (.BinOp a .Sub b pos) (tSub ta tb) := by
  intro pins s σ H Q I h
  refine wpAny_BinOp (bin ha hb I h fun v u s2 x y H2 I2 rx ry q => ?_)
  obtain ⟨i, j, rfl, rfl, q⟩ := q
  obtain ⟨t, rfl⟩ := rx
  obtain ⟨t', rfl⟩ := ry
  exact sub_int ⟨.int _, H2, I2.tok _, ⟨_, rfl⟩, q⟩
theorem pe_mul (ha : PE X a ta) (hb : PE X b tb) : PE X (.BinOp a .Mult b pos) (tMul ta tb) := by
  intro pins s σ H Q I h
  refine wpAny_BinOp (bin ha hb I h fun v u s2 x y H2 I2 rx ry q => ?_)
  obtain ⟨i, j, rfl, rfl, ⟨q1, q2⟩, q⟩ := q
  obtain ⟨t, rfl⟩ := rx
  obtain ⟨t', rfl⟩ := ry
  exact mul_int ⟨.int _, H2, I2.tok _, ⟨_, rfl⟩, q⟩ (.of_left (intBits_le_64 q1 q2))

/-! ### comparisons -/
def PC (X : Cx) (op : CmpOp) (a b : Expr) (t : TE) : Prop :=
  ∀ (pins : List (Addr × Obj)) (s : Shared) (σ : St) (H : Hp) (Q : VK), Inv X pins σ H s → t σ H Q →
    wpAny (model X.prog X.w) X.A (eval a X.env) (fun v s₁ => wpAny (model X.prog X.w) X.A (eval b X.env) (fun u s₂ => wpAny (model X.prog X.w) X.A (compareOp op v u) (EP X pins σ Q) X.xe s₂) X.xe s₁) X.xe s
theorem nobehind (b : Expr) {op : CmpOp} (h : op ≠ .In) (h2 : op ≠ .NotIn) : behindInMarks op b = false := by
  have e1 : (op == CmpOp.In) = false := by cases op <;> first | rfl | exact absurd rfl h
  have e2 : (op == CmpOp.NotIn) = false := by cases op <;> first | rfl | exact absurd rfl h2
  cases b <;> simp [behindInMarks, e1, e2]
def tCmp (p : Int → Int → Bool) (ta tb : TE) : TE := fun σ H Q => t2I ta tb (fun i j H2 => Q (.bl (p i j)) H2) σ H
abbrev tLt : TE → TE → TE := tCmp fun i j => decide (i < j)
abbrev tLe : TE → TE → TE := tCmp fun i j => decide (i ≤ j)
abbrev tGt : TE → TE → TE := tCmp fun i j => decide (j < i)
abbrev tGe : TE → TE → TE := tCmp fun i j => decide (j ≤ i)
abbrev tEqI : TE → TE → TE := tCmp fun i j => decide (i = j)
abbrev tNeI : TE → TE → TE := tCmp fun i j => !decide (i = j)
/-- a comparison of two ints, by its rule -/
theorem pc_int {op : CmpOp} {p : Int → Int → Bool} (ha : PE X a ta) (hb : PE X b tb)
    (rule : ∀ (i j : Int) (t u : Tok) (Q : Value → Shared → Prop) (s : Shared), Q (.bool (p i j)) s → wpAny (model X.prog X.w) X.A (compareOp op (.int i t) (.int j u)) Q X.xe s) : PC X op a b (tCmp p ta tb) := by
  intro pins s σ H Q I h
  refine bin ha hb I h fun v u s2 x y H2 I2 rx ry q => ?_
  obtain ⟨i, j, rfl, rfl, q⟩ := q
  obtain ⟨t, rfl⟩ := rx
  obtain ⟨t', rfl⟩ := ry
  exact rule i j t t' _ s2 ⟨.bl _, H2, I2, rfl, q⟩
theorem pc_lt (ha : PE X a ta) (hb : PE X b tb) : PC X .Lt a b (tLt ta tb) := pc_int ha hb fun _ _ _ _ _ _ h => lt_int h
theorem pc_le (ha : PE X a ta) (hb : PE X b tb) : PC X .LtE a b (tLe ta tb) := pc_int ha hb fun _ _ _ _ _ _ h => le_int h
theorem pc_gt (ha : PE X a ta) (hb : PE X b tb) : PC X .Gt a b (tGt ta tb) := pc_int ha hb fun _ _ _ _ _ _ h => gt_int h
theorem pc_ge (ha : PE X a ta) (hb : PE X b tb) : PC X .GtE a b (tGe ta tb) := pc_int ha hb fun _ _ _ _ _ _ h => ge_int h
theorem pc_eqI (ha : PE X a ta) (hb : PE X b tb) : PC X .Eq a b (tEqI ta tb) := pc_int ha hb fun _ _ _ _ _ _ h => eq_int (by rw [Bool.beq_eq_decide_eq]; exact h)
theorem pc_neI (ha : PE X a ta) (hb : PE X b tb) : PC X .NotEq a b (tNeI ta tb) := pc_int ha hb fun _ _ _ _ _ _ h => ne_int (by rw [bne, Bool.beq_eq_decide_eq]; exact h)
/-- is None -/
def tIsN (ta : TE) : TE := fun σ H Q => ta σ H fun x H1 => Q (.bl (decide (x = .non))) H1
def tNotN (ta : TE) : TE := fun σ H Q => ta σ H fun x H1 => Q (.bl (!decide (x = .non))) H1
theorem RelV.none_iff {x : V} {v : Value} (r : RelV x v) : (v == Value.none) = decide (x = .non) := by
  cases x with
  | non => cases r; rfl
  | bl _ => cases r; rfl
  | int _ => obtain ⟨t, rfl⟩ := r; rfl
  | str _ => obtain ⟨t, rfl⟩ := r; rfl
  | byt _ => obtain ⟨t, rfl⟩ := r; rfl
  | flt _ => obtain ⟨t, rfl⟩ := r; rfl
  | ref _ => cases r; rfl
  | ty _ => cases r; rfl
theorem pc_isN {j pos'} (ha : PE X a ta) : PC X .Is a (.Constant .none j pos') (tIsN ta) := by
  intro pins s σ H Q I h
  refine thn (ha pins s σ H _ I h) fun v s1 ⟨x, H1, I1, r1, q1⟩ => ?_
  exact Constant_none (is_none_gen ⟨.bl _, H1, I1, by rw [r1.none_iff]; rfl, q1⟩)
theorem pc_notN {j pos'} (ha : PE X a ta) : PC X .IsNot a (.Constant .none j pos') (tNotN ta) := by
  intro pins s σ H Q I h
  refine thn (ha pins s σ H _ I h) fun v s1 ⟨x, H1, I1, r1, q1⟩ => ?_
  exact Constant_none (isnot_none_gen ⟨.bl _, H1, I1, by rw [r1.none_iff]; rfl, q1⟩)
/-- a comparison as a value, as a test -/
def tB (t : TE) : TT := fun σ H Q => t σ H fun x H1 => ∃ c, x = .bl c ∧ Q c H1
theorem pe_cmp {op : CmpOp} {t : TE} (h : PC X op a b t) (h1 : behindInMarks op b = false := by first | exact nobehind _ (by decide) (by decide) | rfl) : PE X (.Compare a [op] [b] pos) t := fun pins s σ H Q I hw => wpAny_Compare1 (h pins s σ H Q I hw) h1
theorem pt_cmp {op : CmpOp} {t : TE} (h : PC X op a b t) (h1 : behindInMarks op b = false := by first | exact nobehind _ (by decide) (by decide) | rfl) : PT X (.Compare a [op] [b] pos) (tB t) := by
  intro pins s σ H Q I hw
  refine wpAny_isTrue_Compare1 (thn (h pins s σ H _ I hw) fun v s1 h1 => thn h1 fun u s2 h2 => thn h2 fun c s3 ⟨x, H1, I1, r1, q1⟩ => ?_) h1
  obtain ⟨d, rfl, q⟩ := q1
  cases r1
  exact wpAny_truthy_bool ⟨H1, I1, q⟩
/-- an expression whose value is a bool, as a test -/
theorem pt_val {e : Expr} {t : TE} (h : PE X e t) (he : ∀ whole, isTrue e X.env whole = (do let v ← whole; standAt e.pos; holding [v] (truthy v)) := by intro _; rfl) : PT X e (tB t) := by
  intro pins s σ H Q I hw
  refine isTrue_plain (thn (h pins s σ H _ I hw) fun v s1 ⟨x, H1, I1, r1, q1⟩ => ?_) (he _)
  obtain ⟨d, rfl, q⟩ := q1
  cases r1
  exact wpAny_truthy_bool ⟨H1, I1, q⟩

/-! ### and, or, not -/
variable {tA tB' : TT} {rest : List Expr}
def tAnd (t u : TT) : TT := fun σ H Q => t σ H fun c H1 => if c = true then u σ H1 Q else Q false H1
def tOr (t u : TT) : TT := fun σ H Q => t σ H fun c H1 => if c = true then Q true H1 else u σ H1 Q
def tNot (t : TT) : TT := fun σ H Q => t σ H fun c H1 => Q (!c) H1
theorem pw_and1 (ha : PT X a tA) : PW X (.BoolOp .And [a] pos) tA := by
  intro wh pins s σ H Q I h
  refine isTrue_and (thn (ha pins s σ H Q I h) fun c s1 e => ?_)
  cases c with
  | true => exact isTrue_and_nil e
  | false => exact e
theorem pw_or1 (ha : PT X a tA) : PW X (.BoolOp .Or [a] pos) tA := by
  intro wh pins s σ H Q I h
  refine isTrue_or (thn (ha pins s σ H Q I h) fun c s1 e => ?_)
  cases c with
  | false => exact isTrue_or_nil e
  | true => exact e
theorem pw_and (ha : PT X a tA) (hb : PW X (.BoolOp .And (b :: rest) pos) tB') : PW X (.BoolOp .And (a :: b :: rest) pos) (tAnd tA tB') := by
  intro wh pins s σ H Q I h
  refine isTrue_and (thn (ha pins s σ H _ I h) fun c s1 ⟨H1, I1, q1⟩ => ?_)
  cases c with
  | true => exact hb wh pins s1 σ H1 Q I1 q1
  | false => exact ⟨H1, I1, q1⟩
theorem pw_or (ha : PT X a tA) (hb : PW X (.BoolOp .Or (b :: rest) pos) tB') : PW X (.BoolOp .Or (a :: b :: rest) pos) (tOr tA tB') := by
  intro wh pins s σ H Q I h
  refine isTrue_or (thn (ha pins s σ H _ I h) fun c s1 ⟨H1, I1, q1⟩ => ?_)
  cases c with
  | true => exact ⟨H1, I1, q1⟩
  | false => exact hb wh pins s1 σ H1 Q I1 q1
theorem pt_not (ha : PT X a tA) : PT X (.UnaryOp .Not a pos) (tNot tA) := by
  intro pins s σ H Q I h
  exact isTrue_not (ha pins s σ H (fun c H1 => Q (!c) H1) I h)
/-- .. as values (bools) -/
def tAndV (ta tb : TE) : TE := fun σ H Q => ta σ H fun x H1 => ∃ c, x = .bl c ∧ if c = true then tb σ H1 Q else Q (.bl false) H1
def tOrV (ta tb : TE) : TE := fun σ H Q => ta σ H fun x H1 => ∃ c, x = .bl c ∧ if c = true then Q (.bl true) H1 else tb σ H1 Q
def tNotV (ta : TE) : TE := fun σ H Q => ta σ H fun x H1 => ∃ c, x = .bl c ∧ Q (.bl (!c)) H1
theorem pe_one {op} {t : TE} (h : PE X a t) : PE X (.BoolOp op [a] pos) t := fun pins s σ H Q I hw => BoolOp_one (h pins s σ H Q I hw)
theorem pe_and (ha : PE X a ta) (hb : PE X (.BoolOp .And (b :: rest) pos) tb) : PE X (.BoolOp .And (a :: b :: rest) pos) (tAndV ta tb) := by
  intro pins s σ H Q I h
  refine BoolOp_and (thn (ha pins s σ H _ I h) fun v s1 ⟨x, H1, I1, r1, q1⟩ => ?_)
  obtain ⟨c, rfl, q1⟩ := q1
  cases r1
  refine wpAny_truthy_bool ?_
  cases c with
  | true => exact hb pins s1 σ H1 Q I1 q1
  | false => exact ⟨.bl false, H1, I1, rfl, q1⟩
theorem pe_or (ha : PE X a ta) (hb : PE X (.BoolOp .Or (b :: rest) pos) tb) : PE X (.BoolOp .Or (a :: b :: rest) pos) (tOrV ta tb) := by
  intro pins s σ H Q I h
  refine BoolOp_or (thn (ha pins s σ H _ I h) fun v s1 ⟨x, H1, I1, r1, q1⟩ => ?_)
  obtain ⟨c, rfl, q1⟩ := q1
  cases r1
  refine wpAny_truthy_bool ?_
  cases c with
  | false => exact hb pins s1 σ H1 Q I1 q1
  | true => exact ⟨.bl true, H1, I1, rfl, q1⟩
theorem pe_not (ha : PE X a ta) : PE X (.UnaryOp .Not a pos) (tNotV ta) := by
  intro pins s σ H Q I h
  refine UnaryOp_ (thn (ha pins s σ H _ I h) fun v s1 ⟨x, H1, I1, r1, q1⟩ => ?_)
  obtain ⟨c, rfl, q1⟩ := q1
  cases r1
  exact not_of (wpAny_truthy_bool ⟨.bl (!c), H1, I1, rfl, q1⟩)
/-- a if t else b -/
def tIf (t : TT) (ta tb : TE) : TE := fun σ H Q => t σ H fun c H1 => if c = true then ta σ H1 Q else tb σ H1 Q
theorem pe_ifExp {c : Expr} (hc : PT X c tA) (ha : PE X a ta) (hb : PE X b tb) : PE X (.IfExp c a b pos) (tIf tA ta tb) := by
  intro pins s σ H Q I h
  refine wpAny_IfExp (thn (hc pins s σ H _ I h) fun d s1 ⟨H1, I1, q1⟩ => ?_)
  cases d with
  | true => exact ha pins s1 σ H1 Q I1 q1
  | false => exact hb pins s1 σ H1 Q I1 q1
end
end L2

namespace L2
open PySem PySem.Spec PyProof.Rows

/-! ### a list, a tuple that is read: tracked, frozen, or an object of the module -/
def SqL (K : PySem.W.Frag) (H : Hp) (a : Addr) (xs : List V) : Prop :=
  Rd H a (.lst xs) ∨
    ∃ (o : Obj) (its : Array Value) (n : Nat), K.lookup a = some o ∧ o.cls = .type "list" ∧ o.dict = none ∧ o.data = .seq its n ∧ its.size ≤ sizeLine ∧ Vals xs its.toList
def SqT (K : PySem.W.Frag) (H : Hp) (a : Addr) (xs : List V) : Prop :=
  Rd H a (.tup xs) ∨
    ∃ (o : Obj) (its : Array Value) (n : Nat), K.lookup a = some o ∧ o.cls = .type "tuple" ∧ o.data = .seq its n ∧ its.size ≤ sizeLine ∧ Vals xs its.toList
def absV : Value → Option V
  | .none => some .non
  | .bool b => some (.bl b)
  | .int i _ => some (.int i)
  | .str x _ => some (.str x)
  | .bytes b _ => some (.byt b)
  | .float b _ => some (.flt b)
  | .ref a => some (.ref a)
  | .type n => some (.ty n)
  | _ => none
theorem RelV.abs {x : V} {u : Value} (r : RelV x u) : absV u = some x := by
  cases x with
  | non => cases r; rfl
  | bl _ => cases r; rfl
  | int _ => obtain ⟨t, rfl⟩ := r; rfl
  | str _ => obtain ⟨t, rfl⟩ := r; rfl
  | byt _ => obtain ⟨t, rfl⟩ := r; rfl
  | flt _ => obtain ⟨t, rfl⟩ := r; rfl
  | ref _ => cases r; rfl
  | ty _ => cases r; rfl
theorem RelV.inj {x y : V} {u : Value} (r : RelV x u) (q : RelV y u) : x = y := Option.some.inj (r.abs.symm.trans q.abs)
theorem Vals.inj : ∀ {xs ys : List V} {us : List Value}, Vals xs us → Vals ys us → xs = ys
  | _, _, _, .nil, .nil => rfl
  | _, _, _, .cons r t, .cons r' t' => by rw [r.inj r', Vals.inj t t']
section
variable {X : Cx} {pins : List (Addr × Obj)} {σ : St} {H : Hp} {s : Shared} {a : Addr} {xs ys : List V}
theorem SqL.of {K : PySem.W.Frag} (h : H a = some (.lst xs)) : SqL K H a xs := .inl (.inl h)
theorem SqT.of {K : PySem.W.Frag} (h : H a = some (.tup xs)) : SqT K H a xs := .inl (.inl h)
theorem Inv.list (I : Inv X pins σ H s) (h : SqL X.K H a xs) : ∃ its : List Value, Vals xs its ∧ PlainL s.heap a its.toArray ∧ xs.length ≤ sizeLine := by
  rcases h with h | ⟨o, its, n, hk, hc, hd, hs, hz, r⟩
  · obtain ⟨z, its, n, r, e⟩ := h.ok I.hok
    exact ⟨its, r, ⟨_, n, e, rfl, rfl, rfl⟩, z⟩
  · refine ⟨its.toList, r, ⟨o, n, I.kIn a o hk, hc, hd, by simpa using hs⟩, ?_⟩
    have e := r.length
    simp only [Array.length_toList] at e
    omega
theorem Inv.tuple (I : Inv X pins σ H s) (h : SqT X.K H a xs) : ∃ its : List Value, Vals xs its ∧ IsTup s.heap a its.toArray ∧ xs.length ≤ sizeLine := by
  rcases h with h | ⟨o, its, n, hk, hc, hs, hz, r⟩
  · obtain ⟨z, its, r, p⟩ := h.ok I.hok
    exact ⟨its, r, p, z⟩
  · refine ⟨its.toList, r, ⟨o, I.kIn a o hk, hc, n, by simpa using hs⟩, ?_⟩
    have e := r.length
    simp only [Array.length_toList] at e
    omega
theorem Inv.list_inj (I : Inv X pins σ H s) (h : SqL X.K H a xs) (h' : SqL X.K H a ys) : xs = ys := by
  obtain ⟨its, r, ⟨o, n, e, _, _, d⟩, _⟩ := I.list h
  obtain ⟨its', r', ⟨o', n', e', _, _, d'⟩, _⟩ := I.list h'
  rw [e] at e'; cases e'
  rw [d] at d'
  injection d' with d1 _
  have : its = its' := by simpa using congrArg Array.toList d1
  subst this
  exact r.inj r'
theorem Inv.tuple_inj (I : Inv X pins σ H s) (h : SqT X.K H a xs) (h' : SqT X.K H a ys) : xs = ys := by
  obtain ⟨its, r, ⟨o, e, _, n, d⟩, _⟩ := I.tuple h
  obtain ⟨its', r', ⟨o', e', _, n', d'⟩, _⟩ := I.tuple h'
  rw [e] at e'; cases e'
  rw [d] at d'
  injection d' with d1 _
  have : its = its' := by simpa using congrArg Array.toList d1
  subst this
  exact r.inj r'
end

/-! ### another wish about exceptions -/
abbrev Cx.wish (X : Cx) (E : Value → Shared → Prop) : Cx := { X with xe := E }
/-- no exception leaves -/
abbrev Cx.nox (X : Cx) : Cx := X.wish fun _ _ => False
theorem Cx.Ok.wish {X : Cx} (ok : X.Ok) (E : Value → Shared → Prop) : (X.wish E).Ok :=
  ⟨ok.mod, ok.kind, ok.glob, ok.blt, ok.above, ok.inj, ok.has, ok.cab, ok.hd, ok.frames, ok.stk, ok.exf, ok.bs, ok.bsz, ok.noex, ok.exfs, ok.funs, ok.frf⟩
theorem Cx.Ok.unwish {X : Cx} {E : Value → Shared → Prop} (ok : (X.wish E).Ok) : X.Ok :=
  ⟨ok.mod, ok.kind, ok.glob, ok.blt, ok.above, ok.inj, ok.has, ok.cab, ok.hd, ok.frames, ok.stk, ok.exf, ok.bs, ok.bsz, ok.noex, ok.exfs, ok.funs, ok.frf⟩
section
variable {X : Cx} {pins : List (Addr × Obj)} {σ : St} {H : Hp} {s : Shared} {E : Value → Shared → Prop}
theorem Inv.wish (I : Inv X pins σ H s) (E : Value → Shared → Prop) : Inv (X.wish E) pins σ H s := ⟨I.ok.wish E, I.os, I.bare, I.base, I.loc, I.cell, I.free, I.freeC, I.pin, I.hok, I.len⟩
theorem Inv.unwish (I : Inv (X.wish E) pins σ H s) : Inv X pins σ H s := ⟨I.ok.unwish, I.os, I.bare, I.base, I.loc, I.cell, I.free, I.freeC, I.pin, I.hok, I.len⟩
theorem SP.unwish {D : Ends} {f : Flow} {s' : Shared} (h : SP (X.wish E) pins D f s') : SP X pins D f s' := by
  cases f with
  | next => obtain ⟨σ', H', I, q⟩ := h; exact ⟨σ', H', I.unwish, q⟩
  | brk => obtain ⟨σ', H', I, q⟩ := h; exact ⟨σ', H', I.unwish, q⟩
  | cont => obtain ⟨σ', H', I, q⟩ := h; exact ⟨σ', H', I.unwish, q⟩
  | ret u => obtain ⟨v, σ', H', I, r, q⟩ := h; exact ⟨v, σ', H', I.unwish, r, q⟩
theorem PE.nox {e : Expr} {t : TE} (h : PE X.nox e t) : PE X e t := fun pins s σ H Q I hw =>
  wpAny_mono (h pins s σ H Q (I.wish _) hw) (fun _ _ ⟨v, H', I', r, q⟩ => ⟨v, H', I'.unwish, r, q⟩) fun _ _ z => False.elim z
theorem PT.nox {e : Expr} {t : TT} (h : PT X.nox e t) : PT X e t := fun pins s σ H Q I hw =>
  wpAny_mono (h pins s σ H Q (I.wish _) hw) (fun _ _ ⟨H', I', q⟩ => ⟨H', I'.unwish, q⟩) fun _ _ z => False.elim z
theorem PSs.nox {st : List Stmt} {t : TS} (h : PSs X.nox st t) : PSs X st t := fun pins s σ H D I hw =>
  wpAny_mono (h pins s σ H D (I.wish _) hw) (fun _ _ q => q.unwish) fun _ _ z => False.elim z
end

/-! ### blocks and small statements -/
section
variable {X : Cx} {st : Stmt} {rest : List Stmt} {t u : TS} {e : Expr} {te : TE} {pos : Pos}
def tNext : TS := fun D σ H => D.nx σ H
def tSeq (t u : TS) : TS := fun D σ H => t { D with nx := u D } σ H
theorem pss_nil : PSs X [] tNext := fun _ _ σ H _ I h => wpAny_execs_nil ⟨σ, H, I, h⟩
theorem pss_cons (h1 : PS X st t) (h2 : PSs X rest u) : PSs X (st :: rest) (tSeq t u) := by
  intro pins s σ H D I h
  refine wpAny_execs_cons (thn (h1 pins s σ H { D with nx := u D } I h) fun f s1 q => ?_)
  cases f with
  | next =>
    obtain ⟨σ', H', I', q⟩ := q
    exact h2 pins s1 σ' H' D I' q
  | ret v => exact q
  | brk => exact q
  | cont => exact q
theorem pss_one (h1 : PS X st t) : PSs X [st] t := by
  intro pins s σ H D I h
  refine wpAny_execs_cons (thn (h1 pins s σ H D I h) fun f s1 q => ?_)
  cases f with
  | next => exact wpAny_execs_nil q
  | ret v => exact q
  | brk => exact q
  | cont => exact q
def tBreak : TS := fun D σ H => D.bk σ H
def tCont : TS := fun D σ H => D.ct σ H
theorem ps_pass : PS X (.Pass pos) tNext := fun _ _ σ H _ I h => wpAny_Pass ⟨σ, H, I, h⟩
theorem ps_break : PS X (.Break pos) tBreak := fun _ _ σ H _ I h => wpAny_Break ⟨σ, H, I, h⟩
theorem ps_continue : PS X (.Continue pos) tCont := fun _ _ σ H _ I h => wpAny_Continue ⟨σ, H, I, h⟩
/-- in a def's body nothing is shown -/
theorem Inv.quiet {pins : List (Addr × Obj)} {σ : St} {H : Hp} {s : Shared} (I : Inv X pins σ H s) : interactive X.env = false := by simp [interactive, I.ok.kind]
/-- a docstring -/
theorem ps_doc {x j pos pos'} : PS X (.Expr (.Constant (.str x) j pos) pos') tNext := fun _ s σ H _ I h => wpAny_Expr (Calls.Constant_str (show SP X _ _ .next { s with toks := s.toks + 1 } from ⟨σ, H, I.tok _, h⟩)) I.quiet
/-- an expression whose value is dropped -/
def tDrop (te : TE) : TS := fun D σ H => te σ H fun _ H1 => D.nx σ H1
theorem ps_expr (he : PE X e te) (hs : swapsWith e none pos.line X.env = pure false := by rfl) : PS X (.Expr e pos) (tDrop te) := by
  intro pins s σ H D I h
  exact wpAny_Expr_any (thn (he pins s σ H _ I h) fun v s1 ⟨x, H1, I1, r1, q1⟩ => ⟨σ, H1, I1, q1⟩) I.quiet hs
def tRet (te : TE) : TS := fun D σ H => te σ H D.rt
theorem ps_ret (he : PE X e te) : PS X (.Return (some e) pos) (tRet te) := by
  intro pins s σ H D I h
  exact wpAny_Return_some (thn (he pins s σ H _ I h) fun v s1 ⟨x, H1, I1, r1, q1⟩ => ⟨x, σ, H1, I1, r1, q1⟩)
def tRetN : TS := fun D _ H => D.rt .non H
theorem ps_retN : PS X (.Return none pos) tRetN := fun _ _ σ H _ I h => wpAny_Return_none ⟨.non, σ, H, I, rfl, h⟩
def tIfS (c : TT) (t u : TS) : TS := fun D σ H => c σ H fun b H1 => if b = true then t D σ H1 else u D σ H1
theorem ps_if {c : Expr} {a b : List Stmt} {tc : TT} (hc : PT X c tc) (ha : PSs X a t) (hb : PSs X b u) : PS X (.If c a b pos) (tIfS tc t u) := by
  intro pins s σ H D I h
  refine wpAny_If (thn (hc pins s σ H _ I h) fun d s1 ⟨H1, I1, q1⟩ => ?_)
  cases d with
  | true => exact ha pins s1 σ H1 D I1 q1
  | false => exact hb pins s1 σ H1 D I1 q1
/-- code that the proof never comes to -/
def tNever : TS := fun _ _ _ => False
theorem ps_never : PS X st tNever := fun _ _ _ _ _ _ h => h.elim
theorem pss_never {sts : List Stmt} : PSs X sts tNever := fun _ _ _ _ _ _ h => h.elim
end

/-! ### targets -/
abbrev TG := V → St → Hp → (St → Hp → Prop) → Prop
abbrev TGs := List V → St → Hp → (St → Hp → Prop) → Prop
def PG (X : Cx) (target : Expr) (t : TG) : Prop :=
  ∀ (pins : List (Addr × Obj)) (s : Shared) (σ : St) (H : Hp) (v : V) (u : Value) (Q : St → Hp → Prop), Inv X pins σ H s → RelV v u → t v σ H Q →
    wpAny (model X.prog X.w) X.A (assign target X.env u) (fun _ s' => ∃ σ' H', Inv X pins σ' H' s' ∧ Q σ' H') X.xe s
/-- several targets, one after another -/
def PGs (X : Cx) (ts : List Expr) (t : TGs) : Prop :=
  ∀ (pins : List (Addr × Obj)) (s : Shared) (σ : St) (H : Hp) (vs : List V) (us : List Value) (Q : St → Hp → Prop), Inv X pins σ H s → Vals vs us → t vs σ H Q →
    wpAny (model X.prog X.w) X.A (assignInOrder ((assignEach ts X.env).map (·.2)) us) (fun _ s' => ∃ σ' H', Inv X pins σ' H' s' ∧ Q σ' H') X.xe s
/-- o[i] = v, by values -/
abbrev TSet := V → V → V → Hp → (Hp → Prop) → Prop
def PSet (X : Cx) (t : TSet) : Prop :=
  ∀ (pins : List (Addr × Obj)) (s : Shared) (σ : St) (H : Hp) (o i v : V) (ov iv u : Value) (Q : Hp → Prop), Inv X pins σ H s → RelV o ov → RelV i iv → RelV v u → t o i v H Q →
    wpAny (model X.prog X.w) X.A (setItem ov iv u) (fun _ s' => ∃ H', Inv X pins σ H' s' ∧ Q H') X.xe s
/-- a op= b, by values -/
abbrev TIp := V → V → Hp → VK → Prop
def PIp (X : Cx) (op : Operator) (t : TIp) : Prop :=
  ∀ (pins : List (Addr × Obj)) (s : Shared) (σ : St) (H : Hp) (x y : V) (v u : Value) (Q : VK), Inv X pins σ H s → RelV x v → RelV y u → t x y H Q →
    wpAny (model X.prog X.w) X.A (inplaceOp op v u) (EP X pins σ Q) X.xe s
section
variable {X : Cx} {pos : Pos}
def gName (i : Nat) : TG := fun v σ H Q => Q (σ.set i (some v)) H
theorem pg_name {i : Nat} {x : Str} (hN : X.N.Nodup) (hi : X.N[i]? = some x) (hx : Loc X.env.scope x) (hf : X.fn x = true ∨ X.env.scope.names.lookup x = some .local := by first | exact .inl rfl | exact .inr rfl | assumption) : PG X (.Name x pos) (gName i) := by
  intro pins s σ H v u Q I r h
  exact wpAny_assign_Name (store_ok I hN hi hx r (fun s' I' => ⟨_, H, I', h⟩) hf)
def gNil : TGs := fun vs σ H Q => vs = [] ∧ Q σ H
def gCons (t : TG) (u : TGs) : TGs := fun vs σ H Q => ∃ v r, vs = v :: r ∧ t v σ H fun σ' H' => u r σ' H' Q
theorem pgs_nil : PGs X [] gNil := by
  intro pins s σ H vs us Q I r h
  obtain ⟨e, h⟩ := h
  subst e
  cases r
  exact assignInOrder_nil ⟨σ, H, I, h⟩
theorem pgs_cons {e : Expr} {es : List Expr} {t : TG} {u : TGs} (h1 : PG X e t) (h2 : PGs X es u)
    (hs : (assignEach (e :: es) X.env).map (·.2) = assign e X.env :: (assignEach es X.env).map (·.2) := by rfl) : PGs X (e :: es) (gCons t u) := by
  intro pins s σ H vs us Q I r h
  obtain ⟨v, vr, e1, h⟩ := h
  subst e1
  cases r with
  | cons r rr =>
    rw [hs]
    refine assignInOrder_cons (thn (h1 pins s σ H _ _ _ I r h) fun _ s1 ⟨σ1, H1, I1, q1⟩ => ?_)
    exact h2 pins s1 σ1 H1 _ _ Q I1 rr q1
/-- (a, b, ..) = a tuple of that length -/
def gTup (K : PySem.W.Frag) (n : Nat) (t : TGs) : TG := fun v σ H Q => ∃ a xs, v = .ref a ∧ SqT K H a xs ∧ xs.length = n ∧ t xs σ H Q
theorem pg_tup {es : List Expr} {k : Nat} {t : TGs} {n : Nat} (hc : X.calm = true) (h : PGs X es t)
    (hn : (assignEach es X.env).length = n := by rfl) (hst : (assignEach es X.env).findIdx? (·.1) = none := by rfl) : PG X (.Tuple es k pos) (gTup X.K n t) := by
  intro pins s σ H v u Q I r hw
  obtain ⟨a, xs, e1, hq, hl, hw⟩ := hw
  subst e1
  cases r
  obtain ⟨its, rv, ht, hz⟩ := I.tuple hq
  refine assign_Tuple_tuple (I.ok.hd hc) ht (by simp [hn, ← hl, rv.length]) hst fun h' hx => ?_
  have I1 : Inv X pins σ H { s with heap := h' } := I.kept (t' := s.toks) fun b o e => hx b o (Nat.ne_of_lt (Heap.lt_size e)) e
  exact h pins _ σ H xs _ Q I1 (by simpa using rv) hw
/-- o[i] = .. -/
def gSub (to ti : TE) (t : TSet) : TG := fun v σ H Q => to σ H fun o H1 => ti σ H1 fun i H2 => t o i v H2 fun H3 => Q σ H3
theorem pg_sub {o i : Expr} {to ti : TE} {t : TSet} (ho : PE X o to) (hi : PE X i ti) (hs : PSet X t)
    (ha : ∀ v, assign (.Subscript o i pos) X.env v = (do
      let ov ← holding [v] (eval o X.env)
      let iv ← holding [v, ov] (eval i X.env)
      standAt pos
      holding [v, ov, iv] (setItem ov iv v)
      release [v, ov, iv] []) := by intro _; rfl) : PG X (.Subscript o i pos) (gSub to ti t) := by
  intro pins s σ H v u Q I r h
  rw [ha]
  refine wpAny_bind (wpAny_holding (thn (ho pins s σ H _ I h) fun ov s1 ⟨x, H1, I1, r1, q1⟩ => ?_))
  refine wpAny_bind (wpAny_holding (thn (hi pins s1 σ H1 _ I1 q1) fun iv s2 ⟨y, H2, I2, r2, q2⟩ => ?_))
  refine wpAny_bind (wpAny_standAt (wpAny_bind (wpAny_holding (thn (hs pins s2 σ H2 x y v ov iv u _ I2 r1 r2 r q2) fun _ s3 ⟨H3, I3, q3⟩ => ?_))))
  exact wpAny_release ⟨σ, H3, I3, q3⟩
/-- target = value -/
def tAsg (te : TE) (g : TG) : TS := fun D σ H => te σ H fun x H1 => g x σ H1 D.nx
theorem ps_asg {tg e : Expr} {te : TE} {g : TG} (he : PE X e te) (hg : PG X tg g) (hs : swapsWithSole [tg] e pos.line X.env = pure false := by rfl) (hw : swappedStores [tg] e X.env = pure none := by rfl)
    (h1 : (assignEach [tg] X.env).map (·.2) = [assign tg X.env] := by rfl) : PS X (.Assign [tg] e pos) (tAsg te g) := by
  intro pins s σ H D I h
  refine wpAny_Assign_stores (thn (he pins s σ H _ I h) fun v s1 ⟨x, H1, I1, r1, q1⟩ => ?_) hs hw
  rw [h1]
  exact thn (hg pins s1 σ H1 x v _ I1 r1 q1) fun _ s2 q => q
/-- name = value -/
theorem ps_set {i : Nat} {x : Str} {e : Expr} {te : TE} {pos' : Pos} (hN : X.N.Nodup) (hi : X.N[i]? = some x) (hx : Loc X.env.scope x) (he : PE X e te) (hs : swapsWith e (some (.Name x pos')) pos.line X.env = pure false := by rfl) (hf : X.fn x = true ∨ X.env.scope.names.lookup x = some .local := by first | exact .inl rfl | exact .inr rfl | assumption) :
    PS X (.Assign [.Name x pos'] e pos) (tAsg te (gName i)) := by
  intro pins s σ H D I h
  refine wpAny_Assign_Name (thn (he pins s σ H _ I h) fun v s1 ⟨y, H1, I1, r1, q1⟩ => ?_) hs
  exact store_ok I1 hN hi hx r1 (fun s2 I2 => ⟨_, H1, I2, q1⟩) hf
/-- a, b = x, y with plain local names: stored from the right; the pair itself is not tracked (the opening rows as in PyProof/Rows/TupAssign.lean:23) -/
def tPar (i j : Nat) (ta : TA) : TS := fun D σ H => ta σ H fun vs H1 => ∃ v w, vs = [v, w] ∧ D.nx ((σ.set i (some v)).set j (some w)) H1
theorem ps_par {i j : Nat} {x y : Str} {a b : Expr} {ta : TA} {px py pt : Pos} {kt k2 pt2} (hc : X.calm = true) (hN : X.N.Nodup) (hi : X.N[i]? = some x) (hj : X.N[j]? = some y) (hij : i ≠ j)
    (hx : X.env.scope.names.lookup x = some .local) (hy : X.env.scope.names.lookup y = some .local) (ha : PA X [a, b] ta)
    (hw : swappedStores [.Tuple [.Name x px, .Name y py] kt pt] (.Tuple [a, b] k2 pt2) X.env = pure (some [x, y]))
    (hs : swapsWithSole [.Tuple [.Name x px, .Name y py] kt pt] (.Tuple [a, b] k2 pt2) pos.line X.env = pure false := by rfl) :
    PS X (.Assign [.Tuple [.Name x px, .Name y py] kt pt] (.Tuple [a, b] k2 pt2) pos) (tPar i j ta) := by
  intro pins s σ H D I h
  rw [exec_Assign_arm]
  refine wpAny_bind (wpAny_standAt ?_)
  rw [hs]
  refine wpAny_bind (wpAny_pure ?_)
  rw [if_neg (by decide)]
  refine wpAny_bind (Tuple_ (thn (ha _ pins s σ H _ I h) fun us s1 ⟨vs, H1, I1, r1, q1⟩ => ?_))
  obtain ⟨v, w, e1, q1⟩ := q1
  subst e1
  obtain ⟨u1, u2, rfl, rv, rw'⟩ : ∃ u1 u2, us = [u1, u2] ∧ RelV v u1 ∧ RelV w u2 := by
    cases r1 with
    | cons p q =>
      cases q with
      | cons p' q' =>
        cases q'
        exact ⟨_, _, rfl, p, p'⟩
  refine wpAny_newObj_type ?_ (by show 2 ≤ sizeLine; decide)
  have I2 : Inv X pins σ H1 { s1 with heap := s1.heap.push { cls := .type "tuple", data := .seq [u1, u2].toArray } } := I1.kept (t' := s1.toks) fun b o e => Heap.get?_push_of_some _ e
  rw [hw]
  refine wpAny_bind (wpAny_pure ?_)
  show wpAny (model X.prog X.w) X.A (do rule "assign.swapped-stores"; let items ← unpackItems (.ref s1.heap.objs.size) 2 none; assignInOrder [fun v => bindName X.env y v, fun v => bindName X.env x v] items.reverse; pure Flow.next) _ _ _
  refine wpAny_bind (wpAny_rule (wpAny_bind (unpackItems_tuple (items := #[u1, u2]) (I.ok.hd hc) (IsTup.new s1.heap _) fun h' hx' => ?_)))
  have I3 := I2.kept (h' := h') (t' := s1.toks) fun b o e => hx' b o (Nat.ne_of_lt (Heap.lt_size e)) e
  show wpAny _ _ (assignInOrder [fun v => bindName X.env y v, fun v => bindName X.env x v] [u2, u1] >>= fun _ => pure Flow.next) _ _ _
  refine wpAny_bind (assignInOrder_cons (wpAny_bindName (store_ok I3 hN hj (.inl hy) rw' (fun s2 I4 => ?_) (.inr hy))))
  refine assignInOrder_cons (wpAny_bindName (store_ok I4 hN hi (.inl hx) rv (fun s3 I5 => assignInOrder_nil (wpAny_pure ?_)) (.inr hx)))
  rw [List.set_comm _ _ (Ne.symm hij)] at I5
  exact ⟨_, H1, I5, q1⟩
/-- name op= e -/
def tAug (i : Nat) (te : TE) (ti : TIp) : TS := fun D σ H => ∃ x, σ[i]? = some (some x) ∧ te σ H fun y H1 => ti x y H1 fun z H2 => D.nx (σ.set i (some z)) H2
theorem ps_aug {i : Nat} {x : Str} {e : Expr} {te : TE} {op : Operator} {ti : TIp} {pos' : Pos} (hN : X.N.Nodup) (hi : X.N[i]? = some x) (hx : Loc X.env.scope x) (he : PE X e te) (ho : PIp X op ti) (hf : X.fn x = true ∨ X.env.scope.names.lookup x = some .local := by first | exact .inl rfl | exact .inr rfl | assumption) :
    PS X (.AugAssign (.Name x pos') op e pos) (tAug i te ti) := by
  intro pins s σ H D I h
  obtain ⟨v, e1, h⟩ := h
  obtain ⟨m, hn, hl⟩ := I.loc
  have vis : Vis X.env.scope x := by rcases hx with k | k; exact .inl k; exact .inr (.inl k)
  obtain ⟨u, r, l⟩ := hl i x v hi e1 vis
  refine wpAny_AugAssign_Name ?_
  have go : wpAny (model X.prog X.w) X.A (eval e X.env) (fun w s₂ => wpAny (model X.prog X.w) X.A (inplaceOp op u w) (fun r s₃ => wpAny (model X.prog X.w) X.A (storeName X.env x r) (fun _ => SP X pins D .next) X.xe s₃) X.xe s₂) X.xe s := by
    refine thn (he pins s σ H _ I h) fun w s1 ⟨y, H1, I1, r1, q1⟩ => ?_
    refine thn (ho pins s1 σ H1 v y u w _ I1 r r1 q1) fun z s2 ⟨zv, H2, I2, r2, q2⟩ => ?_
    exact store_ok I2 hN hi hx r2 (fun s3 I3 => ⟨_, H2, I3, q2⟩) hf
  rcases l with ⟨hk, hm⟩ | ⟨hk, c, hc, hcell⟩
  · exact wpAny_loadName_local I.ok.kind hk hn hm go
  · rcases hk with hk | hk
    · exact wpAny_loadName_cell I.ok.kind hk hc hcell go
    · rcases hx with k | k
      · have : X.env.scope.names.lookup x = some .free := hk
        rw [k] at this; cases this
      · have : X.env.scope.names.lookup x = some .free := hk
        rw [k] at this; cases this
/-- o[i] op= e -/
def tAugS (to ti te : TE) (tget : V → V → Hp → VK → Prop) (tip : TIp) (tset : TSet) : TS := fun D σ H => to σ H fun o H1 => ti σ H1 fun i H2 => tget o i H2 fun x H3 => te σ H3 fun y H4 => tip x y H4 fun z H5 => tset o i z H5 fun H6 => D.nx σ H6
/-- o[i], by values -/
def PGet (X : Cx) (t : V → V → Hp → VK → Prop) : Prop :=
  ∀ (pins : List (Addr × Obj)) (s : Shared) (σ : St) (H : Hp) (o i : V) (ov iv : Value) (Q : VK), Inv X pins σ H s → RelV o ov → RelV i iv → t o i H Q →
    wpAny (model X.prog X.w) X.A (getItem ov iv) (EP X pins σ Q) X.xe s
theorem ps_augS {o i e : Expr} {to ti te : TE} {tget : V → V → Hp → VK → Prop} {tip : TIp} {tset : TSet} {op : Operator} {tpos : Pos} (ho : PE X o to) (hi : PE X i ti) (hg : PGet X tget) (he : PE X e te) (hp : PIp X op tip) (hs : PSet X tset)
    (ha : ∀ ov iv new, augStore i ov iv new = (do holding [new, ov, iv] (setItem ov iv new); release [new, ov, iv] []; pure .next) := by intros; rfl) : PS X (.AugAssign (.Subscript o i tpos) op e pos) (tAugS to ti te tget tip tset) := by
  intro pins s σ H D I h
  refine wpAny_AugAssign_SubscriptAny (thn (ho pins s σ H _ I h) fun ov s1 ⟨x1, H1, I1, r1, q1⟩ => ?_) ha
  refine thn (hi pins s1 σ H1 _ I1 q1) fun iv s2 ⟨x2, H2, I2, r2, q2⟩ => ?_
  refine thn (hg pins s2 σ H2 x1 x2 ov iv _ I2 r1 r2 q2) fun old s3 ⟨x3, H3, I3, r3, q3⟩ => ?_
  refine thn (he pins s3 σ H3 _ I3 q3) fun v s4 ⟨x4, H4, I4, r4, q4⟩ => ?_
  refine thn (hp pins s4 σ H4 x3 x4 old v _ I4 r3 r4 q4) fun new s5 ⟨x5, H5, I5, r5, q5⟩ => ?_
  exact thn (hs pins s5 σ H5 x1 x2 x5 ov iv new _ I5 r1 r2 r5 q5) fun _ s6 ⟨H6, I6, q6⟩ => ⟨σ, H6, I6, q6⟩
/-- ints -/
def ipI (f : Int → Int → Int) : TIp := fun x y H Q => ∃ i j, x = .int i ∧ y = .int j ∧ Q (.int (f i j)) H
theorem ip_add : PIp X .Add (ipI fun i j => i + j) := by
  intro pins s σ H x y v u Q I r1 r2 h
  obtain ⟨i, j, e1, e2, q⟩ := h
  subst e1; subst e2
  obtain ⟨t, rfl⟩ := r1
  obtain ⟨t', rfl⟩ := r2
  exact iadd_int ⟨.int _, H, I.tok _, ⟨_, rfl⟩, q⟩
theorem ip_sub : PIp X .Sub (ipI fun i j => i - j) := by
  intro pins s σ H x y v u Q I r1 r2 h
  obtain ⟨i, j, e1, e2, q⟩ := h
  subst e1; subst e2
  obtain ⟨t, rfl⟩ := r1
  obtain ⟨t', rfl⟩ := r2
  exact isub_int ⟨.int _, H, I.tok _, ⟨_, rfl⟩, q⟩
end

/-! ### while -/
section
variable {X : Cx} {pos : Pos}
/-- the invariant W with its measure -/
def tWhile (c : TT) (tb : TS) : TS := fun D σ H => ∃ W : Nat → St → Hp → Prop, (∃ m, W m σ H) ∧ ∀ m σ H, W m σ H →
  c σ H fun b H1 => if b = true then ∃ N : St → Hp → Prop, (∀ σ' H', N σ' H' → ∃ m', m' < m ∧ W m' σ' H') ∧ tb { D with nx := N, ct := N, bk := D.nx } σ H1 else D.nx σ H1
theorem ps_while {c : Expr} {body : List Stmt} {tc : TT} {tb : TS} (hp : PassesOwn (model X.prog X.w) X.A X.env X.xe) (hc : PT X c tc) (hb : PSs X body tb) : PS X (.While c body [] pos) (tWhile tc tb) := by
  intro pins s σ H D I h
  obtain ⟨W, ⟨m0, w0⟩, turn⟩ := h
  refine wpAny_While (codeAny_whileLoop (fun n s' => ∃ σ' H', Inv X pins σ' H' s' ∧ W n σ' H') ?_ m0 ⟨σ, H, I, w0⟩)
  rintro n s1 ⟨σ1, H1, I1, w1⟩
  refine wpAny_passesOwn hp (thn (hc pins s1 σ1 H1 _ I1 (turn n σ1 H1 w1)) fun b s2 ⟨H2, I2, q2⟩ => ?_)
  cases b with
  | true =>
    obtain ⟨N, hN, q2⟩ := q2
    rw [if_pos rfl]
    refine wpAny_passesOwn hp (thn (hb pins s2 σ1 H2 _ I2 q2) fun f s3 q3 => ?_)
    cases f with
    | next =>
      obtain ⟨σ3, H3, I3, n3⟩ := q3
      obtain ⟨m', hm, w3⟩ := hN σ3 H3 n3
      exact ⟨m', hm, σ3, H3, I3, w3⟩
    | cont =>
      obtain ⟨σ3, H3, I3, n3⟩ := q3
      obtain ⟨m', hm, w3⟩ := hN σ3 H3 n3
      exact ⟨m', hm, σ3, H3, I3, w3⟩
    | brk => exact q3
    | ret v => exact q3
  | false =>
    rw [if_neg Bool.false_ne_true]
    exact wpAny_execs_nil ⟨σ1, H2, I2, q2⟩
end

/-! ### what a loop or a comprehension walks -/
/-- at turn i: it yields x (the heap may grow), or it stops -/
structure It where
  go : Nat → Hp → Prop
  yld : Nat → Hp → V → Hp → Prop
  stop : Nat → Hp → Prop
/-- the iterator's own objects may turn: they are not the frame's, not pinned, younger than the entry (or a comprehension's own) -/
def FpOk (X : Cx) (pins : List (Addr × Obj)) (H : Hp) (b : Addr) : Prop :=
  H b = none ∧ b ≠ X.env.locals ∧ b ∉ X.fs ∧ (b ∈ X.ex ∨ X.s₀.heap.objs.size ≤ b) ∧ (∀ x c, X.env.cells.lookup x = some c → c ≠ b) ∧ ∀ p ∈ X.pn ++ pins, p.1 ≠ b
theorem Inv.fpOk {X : Cx} {pins : List (Addr × Obj)} {σ : St} {H H' : Hp} {s : Shared} {b : Addr} (I : Inv X pins σ H s) (hb : s.heap.objs.size ≤ b) (hn : H' b = none) : FpOk X pins H' b := by
  refine ⟨hn, Nat.ne_of_gt (Nat.lt_of_lt_of_le I.lt hb), I.nofs hb, .inr (Nat.le_trans I.sz hb), fun x c e z => ?_, fun p hp z => ?_⟩
  · obtain ⟨v, q⟩ := I.cell x c e
    exact absurd (Nat.lt_of_lt_of_le q.lt (by rw [z]; exact hb)) (Nat.lt_irrefl _)
  · exact absurd (Nat.lt_of_lt_of_le (Heap.lt_size (I.pin p hp).1) (by rw [z]; exact hb)) (Nat.lt_irrefl _)
structure Turn (P : Program) (w : World) (K : PySem.W.Frag) (tg : Expr) (J : It) (fp : List Addr) (it : Addr) (tn : Nat → Heap → Prop) : Prop where
  mem : it ∈ fp
  obj : ∀ i h, tn i h → ∀ b ∈ fp, ∃ o, h.get? b = some o ∧ ∀ v, o.data ≠ .cell v
  keep : ∀ i h h', tn i h → (∀ b ∈ fp, ∀ o, h.get? b = some o → h'.get? b = some o) → tn i h'
  item : ∀ (X : Cx), X.prog = P → X.w = w → X.K = K → X.calm = true → ∀ (i : Nat) (pins : List (Addr × Obj)) (s : Shared) (σ : St) (H : Hp) (E : Value → Shared → Prop), Inv X pins σ H s → (∀ b ∈ fp, FpOk X pins H b) → tn i s.heap → J.go i H →
    wpAny (model P w) X.A (pyNext (.ref it)) (fun r s1 => ∃ u, r = some u ∧
      wpAny (model P w) X.A (letOwnedTupleGo tg (.ref it) u) (fun _ s2 => ∃ x H', Inv X pins σ H' s2 ∧ RelV x u ∧ J.yld i H x H' ∧ tn (i + 1) s2.heap ∧ ∀ b ∈ fp, H' b = none) E s1) E s
  done : ∀ (X : Cx), X.prog = P → X.w = w → X.K = K → X.calm = true → ∀ (i : Nat) (pins : List (Addr × Obj)) (s : Shared) (σ : St) (H : Hp) (E : Value → Shared → Prop), Inv X pins σ H s → (∀ b ∈ fp, FpOk X pins H b) → tn i s.heap → J.stop i H →
    wpAny (model P w) X.A (pyNext (.ref it)) (fun r s1 => r = none ∧ Inv X pins σ H s1) E s
  self : ∀ (A : Around) (i : Nat) (s : Shared) (Q : Value → Shared → Prop) (E : Value → Shared → Prop), tn i s.heap → Q (.ref it) s → wpAny (model P w) A (pyIter (.ref it)) Q E s
abbrev TI := St → Hp → (It → Hp → Prop) → Prop
/-- an iterator has come -/
def PIE (X : Cx) (pins : List (Addr × Obj)) (σ : St) (tg : Expr) (R : It → Hp → Prop) (itv : Value) (s2 : Shared) : Prop :=
  ∃ (it : Addr) (fp : List Addr) (tn : Nat → Heap → Prop) (J : It) (H' : Hp), itv = .ref it ∧ Inv X pins σ H' s2 ∧ Turn X.prog X.w X.K tg J fp it tn ∧ tn 0 s2.heap ∧ (∀ b ∈ fp, FpOk X pins H' b) ∧ R J H'
def PI (X : Cx) (tg iter : Expr) (wi : TI) : Prop :=
  ∀ (pins : List (Addr × Obj)) (s : Shared) (σ : St) (H : Hp) (R : It → Hp → Prop), Inv X pins σ H s → wi σ H R →
    wpAny (model X.prog X.w) X.A (eval iter X.env) (fun v s1 => wpAny (model X.prog X.w) X.A (pyIter v) (PIE X pins σ tg R) X.xe s1) X.xe s

/-- the step ahead of the store is nothing for an iterator that keeps no tuple -/
theorem go_of {M : Model} {A : Around} {E : Value → Shared → Prop} {s : Shared} {tg : Expr} {it : Addr} {u : Value} {o : Obj} {n : String} {vs : Array Value} {Q : Unit → Shared → Prop} (ho : s.heap.get? it = some o) (hc : o.cls = .type n) (hd : o.data = .fields vs)
    (hn : ["enumerate", "zip", "dict_itemiterator", "dict_reverseitemiterator", "odict_iterator", "itertools.zip_longest", "itertools.pairwise"].contains n = false) (hQ : Q () s) : wpAny M A (letOwnedTupleGo tg (.ref it) u) Q E s := by
  unfold letOwnedTupleGo
  cases tg <;> first
    | exact wpAny_pure hQ
    | (cases u <;> first
        | exact wpAny_pure hQ
        | (refine wpAny_bind (wpAny_load ho ?_)
           rw [hc, hd]
           show wpAny M A (if (["enumerate", "zip", "dict_itemiterator", "dict_reverseitemiterator", "odict_iterator", "itertools.zip_longest", "itertools.pairwise"].contains n && vs[0]? == some (rawInt _)) = true then _ else _) Q E s
           rw [if_neg (by intro h; rw [hn, Bool.false_and] at h; cases h)]
           exact wpAny_pure hQ))

/-- the list at a, as it stands at each turn (a loop may append to it) -/
def Itl (K : PySem.W.Frag) (a : Addr) : It :=
  ⟨fun i H => ∃ xs x, SqL K H a xs ∧ xs[i]? = some x, fun i H x H' => H' = H ∧ ∀ xs, SqL K H a xs → xs[i]? = some x, fun i H => ∃ xs, SqL K H a xs ∧ xs.length ≤ i⟩
def Itt (K : PySem.W.Frag) (a : Addr) : It :=
  ⟨fun i H => ∃ xs x, SqT K H a xs ∧ xs[i]? = some x, fun i H x H' => H' = H ∧ ∀ xs, SqT K H a xs → xs[i]? = some x, fun i H => ∃ xs, SqT K H a xs ∧ xs.length ≤ i⟩
/-- lo, lo + 1, .. (n of them) -/
def Itr (lo : Int) (n : Nat) : It := ⟨fun i _ => i < n, fun i H x H' => H' = H ∧ x = .int (lo + i), fun i _ => n ≤ i⟩
theorem turn_list {P : Program} {w : World} {K : PySem.W.Frag} {tg : Expr} (a it : Addr) : Turn P w K tg (Itl K a) [it] it (fun i h => h.IsListIter it a i) where
  mem := by simp
  obj := fun i h st b hb => by
    have e : b = it := by simpa using hb
    subst e
    obtain ⟨o, e, c, d⟩ := st
    exact ⟨o, e, fun v z => by rw [d] at z; cases z⟩
  keep := fun i h h' st k => st.at fun o e => k it (by simp) o e
  item := by
    intro X hP hw hK hc i pins s σ H E I hf st hg
    subst hP hw hK
    obtain ⟨xs, x, hq, hx⟩ := hg
    obtain ⟨its, rv, p, hz⟩ := I.list hq
    obtain ⟨u, hu, ru⟩ := rv.get hx
    obtain ⟨f0, f1, f2, f3, f4, f5⟩ := hf it (by simp)
    refine wpAny_pyNext_list_item st p.isList (x := u) (by simpa using hu) fun h' st' sb => ?_
    have I1 : Inv X pins σ H { s with heap := h' } := I.turned (t' := s.toks) (fun b o hb e => (sb.2 b hb).trans e) f0 f1 f3 f4 f5
    obtain ⟨o, e, c, d⟩ := id st'
    exact ⟨u, rfl, go_of (s := { s with heap := h' }) e c d (by decide) ⟨x, H, I1, ru, ⟨rfl, fun ys hy => by rw [I.list_inj hy hq]; exact hx⟩, st', fun b hb => (hf b hb).1⟩⟩
  done := by
    intro X hP hw hK hc i pins s σ H E I hf st hg
    subst hP hw hK
    obtain ⟨xs, hq, hx⟩ := hg
    obtain ⟨its, rv, p, hz⟩ := I.list hq
    obtain ⟨f0, f1, f2, f3, f4, f5⟩ := hf it (by simp)
    have hl := rv.length
    exact wpAny_pyNext_list_end (I.ok.hd hc) st p.isList (by simp; omega) fun h' eb => ⟨rfl, I.turned (t' := s.toks) (fun b o hb e => eb b o hb e) f0 f1 f3 f4 f5⟩
  self := fun _ _ _ _ _ st h => wpAny_pyIter_listiter st h
theorem turn_tuple {P : Program} {w : World} {K : PySem.W.Frag} {tg : Expr} (a it : Addr) : Turn P w K tg (Itt K a) [it] it (fun i h => h.IsTupleIter it a i) where
  mem := by simp
  obj := fun i h st b hb => by
    have e : b = it := by simpa using hb
    subst e
    obtain ⟨o, e, c, d⟩ := st
    exact ⟨o, e, fun v z => by rw [d] at z; cases z⟩
  keep := fun i h h' st k => st.at fun o e => k it (by simp) o e
  item := by
    intro X hP hw hK hc i pins s σ H E I hf st hg
    subst hP hw hK
    obtain ⟨xs, x, hq, hx⟩ := hg
    obtain ⟨its, rv, p, hz⟩ := I.tuple hq
    obtain ⟨u, hu, ru⟩ := rv.get hx
    obtain ⟨f0, f1, f2, f3, f4, f5⟩ := hf it (by simp)
    refine wpAny_pyNext_tuple_item st (show s.heap.IsTuple a its.toArray from p) (x := u) (by simpa using hu) fun h' st' sb => ?_
    have I1 : Inv X pins σ H { s with heap := h' } := I.turned (t' := s.toks) (fun b o hb e => (sb.2 b hb).trans e) f0 f1 f3 f4 f5
    obtain ⟨o, e, c, d⟩ := id st'
    exact ⟨u, rfl, go_of (s := { s with heap := h' }) e c d (by decide) ⟨x, H, I1, ru, ⟨rfl, fun ys hy => by rw [I.tuple_inj hy hq]; exact hx⟩, st', fun b hb => (hf b hb).1⟩⟩
  done := by
    intro X hP hw hK hc i pins s σ H E I hf st hg
    subst hP hw hK
    obtain ⟨xs, hq, hx⟩ := hg
    obtain ⟨its, rv, p, hz⟩ := I.tuple hq
    obtain ⟨f0, f1, f2, f3, f4, f5⟩ := hf it (by simp)
    have hl := rv.length
    exact wpAny_pyNext_tuple_end (I.ok.hd hc) st (show s.heap.IsTuple a its.toArray from p) (by simp; omega) fun h' eb => ⟨rfl, I.turned (t' := s.toks) (fun b o hb e => eb b o hb e) f0 f1 f3 f4 f5⟩
  self := fun _ _ _ _ _ st h => wpAny_pyIter_tupleiter st h
theorem turn_range {P : Program} {w : World} {K : PySem.W.Frag} {tg : Expr} (it : Addr) (lo : Int) (n : Nat) : Turn P w K tg (Itr lo n) [it] it (fun i h => IsRangeIter h it (lo + (i : Nat) * 1) ((n : Int) - (i : Nat)) 1) where
  mem := by simp
  obj := fun i h st b hb => by
    have e : b = it := by simpa using hb
    subst e
    exact ⟨_, st, fun v z => by
      have z' : Data.fields _ = Data.cell v := z
      cases z'⟩
  keep := fun i h h' st k => k it (by simp) _ st
  item := by
    intro X hP hw hK hc i pins s σ H E I hf st hg
    subst hP hw hK
    obtain ⟨f0, f1, f2, f3, f4, f5⟩ := hf it (by simp)
    have W := Walks.range (prog := X.prog) (w := X.w) (I.ok.hd hc) it lo 1 n
    refine W.item i s _ _ hg st fun v h' tk hv st' kk => ?_
    obtain ⟨t, rfl⟩ := hv
    have I1 : Inv X pins σ H { s with heap := h', toks := tk } := I.turned (fun b o hb e => kk b o (by simpa using hb) e) f0 f1 f3 f4 f5
    refine ⟨_, rfl, go_of (s := { s with heap := h', toks := tk }) (n := "range_iterator") st' rfl rfl (by decide) ⟨.int (lo + i), H, I1, ⟨t, ?_⟩, ⟨rfl, rfl⟩, st', fun b hb => (hf b hb).1⟩⟩
    rw [Int.mul_one]
  done := by
    intro X hP hw hK hc i pins s σ H E I hf st hg
    subst hP hw hK
    obtain ⟨f0, f1, f2, f3, f4, f5⟩ := hf it (by simp)
    exact wpAny_pyNext_range_end (I.ok.hd hc) st (by have : n ≤ i := hg; omega) fun h' eb => ⟨rfl, I.turned (t' := s.toks) (fun b o hb e => eb b o hb e) f0 f1 f3 f4 f5⟩
  self := fun _ _ _ _ _ st h => wpAny_pyIter_rangeiter st h
end L2

namespace L2
open PySem PySem.Spec PyProof.Rows
section
variable {X : Cx} {tg : Expr}
def iList (K : PySem.W.Frag) (tl : TE) : TI := fun σ H R => tl σ H fun x H1 => ∃ a, x = .ref a ∧ (∃ xs, SqL K H1 a xs) ∧ R (Itl K a) H1
def iTup (K : PySem.W.Frag) (tl : TE) : TI := fun σ H R => tl σ H fun x H1 => ∃ a, x = .ref a ∧ (∃ xs, SqT K H1 a xs) ∧ R (Itt K a) H1
theorem pi_list {l : Expr} {tl : TE} (hl : PE X l tl) : PI X tg l (iList X.K tl) := by
  intro pins s σ H R I h
  refine thn (hl pins s σ H _ I h) fun v s1 ⟨x, H1, I1, r1, q1⟩ => ?_
  obtain ⟨a, e, ⟨xs, hq⟩, q⟩ := q1
  subst e
  cases r1
  obtain ⟨its, rv, p, hz⟩ := I1.list hq
  refine wpAny_pyIter_list p.isList ?_
  refine ⟨s1.heap.objs.size, [s1.heap.objs.size], _, _, H1, rfl, I1.kept (t' := s1.toks) fun b o e => Heap.get?_push_of_some _ e, turn_list a _, ⟨_, Heap.get?_push_size _ rfl, rfl, rfl⟩, fun b hb => ?_, q⟩
  have e : b = s1.heap.objs.size := by simpa using hb
  subst e
  exact I1.fpOk (Nat.le_refl _) (I1.hok.fresh (Nat.le_refl _))
theorem pi_tup {l : Expr} {tl : TE} (hl : PE X l tl) : PI X tg l (iTup X.K tl) := by
  intro pins s σ H R I h
  refine thn (hl pins s σ H _ I h) fun v s1 ⟨x, H1, I1, r1, q1⟩ => ?_
  obtain ⟨a, e, ⟨xs, hq⟩, q⟩ := q1
  subst e
  cases r1
  obtain ⟨its, rv, p, hz⟩ := I1.tuple hq
  refine wpAny_pyIter_tuple (show s1.heap.IsTuple a its.toArray from p) ?_
  refine ⟨s1.heap.objs.size, [s1.heap.objs.size], _, _, H1, rfl, I1.kept (t' := s1.toks) fun b o e => Heap.get?_push_of_some _ e, turn_tuple a _, ⟨_, Heap.get?_push_size _ rfl, rfl, rfl⟩, fun b hb => ?_, q⟩
  have e : b = s1.heap.objs.size := by simpa using hb
  subst e
  exact I1.fpOk (Nat.le_refl _) (I1.hok.fresh (Nat.le_refl _))
/-- a range object just made, walked -/
theorem range_it {pins : List (Addr × Obj)} {σ : St} {H : Hp} {s : Shared} {R : It → Hp → Prop} {E : Value → Shared → Prop} {lo hi : Int} {t u v : Tok} {tk : Nat} (I : Inv X pins σ H s) (h1 : -(2 ^ 62) ≤ lo) (h2 : lo < 2 ^ 62) (h3 : -(2 ^ 62) ≤ hi) (h4 : hi < 2 ^ 62)
    (q : R (Itr lo (hi - lo).toNat) H) : wpAny (model X.prog X.w) X.A (pyIter (.ref s.heap.objs.size)) (PIE X pins σ tg R) E { s with heap := s.heap.push { cls := .type "range", data := .fields #[.int lo t, .int hi u, .int 1 v] }, toks := tk } := by
  refine wpAny_pyIter_range (IsRange.new ..) (small_one h1 h2 h3 h4) ?_
  have I1 : Inv X pins σ H { s with heap := s.heap.push { cls := .type "range", data := .fields #[.int lo t, .int hi u, .int 1 v] }, toks := tk } := I.kept fun b o e => Heap.get?_push_of_some _ e
  refine ⟨(s.heap.push { cls := .type "range", data := .fields #[.int lo t, .int hi u, .int 1 v] }).objs.size, [(s.heap.push { cls := .type "range", data := .fields #[.int lo t, .int hi u, .int 1 v] }).objs.size], _, _, H, rfl,
    I1.kept (t' := tk) fun b o e => Heap.get?_push_of_some _ e, turn_range _ lo (hi - lo).toNat, ?_, fun b hb => ?_, q⟩
  · have e1 : lo + ((0 : Nat) : Int) * 1 = lo := by simp
    have e2 : (((hi - lo).toNat : Nat) : Int) - ((0 : Nat) : Int) = Builtin.Range.rangeSize lo hi 1 := by rw [rangeSize_one]; split <;> omega
    show IsRangeIter _ _ (lo + ((0 : Nat) : Int) * 1) ((((hi - lo).toNat : Nat) : Int) - ((0 : Nat) : Int)) 1
    rw [e1, e2]
    exact Heap.get?_push_size _ rfl
  · have e : b = (s.heap.push { cls := .type "range", data := .fields #[.int lo t, .int hi u, .int 1 v] }).objs.size := by simpa using hb
    subst e
    exact I1.fpOk (Nat.le_refl _) (I1.hok.fresh (Nat.le_refl _))
def iRng1 (ta : TA) : TI := fun σ H R => ta σ H fun vs H1 => ∃ j : Int, vs = [.int j] ∧ -(2 ^ 62) ≤ j ∧ j < 2 ^ 62 ∧ R (Itr 0 j.toNat) H1
def iRng2 (ta : TA) : TI := fun σ H R => ta σ H fun vs H1 => ∃ i j : Int, vs = [.int i, .int j] ∧ (-(2 ^ 62) ≤ i ∧ i < 2 ^ 62 ∧ -(2 ^ 62) ≤ j ∧ j < 2 ^ 62) ∧ R (Itr i (j - i).toNat) H1
theorem pi_range1 {a : Expr} {ta : TA} {p pos : Pos} (hg : Gl X "range") (hm : X.mg "range" = none) (ha : PA X [a] ta) (hs : starEach [a] X.env = [(false, eval a X.env)] := by rfl) : PI X tg (.Call (.Name "range" p) [a] [] pos) (iRng1 ta) := by
  intro pins s σ H R I h
  refine Call_ (ld_blt I hg hm boot_range (PyProof.Rows.callWith_type1 (thn (ha pos pins s σ H _ I h) fun us s1 ⟨vs, H1, I1, r1, q1⟩ => ?_) hs rfl))
  obtain ⟨j, e, q1, q2, q⟩ := q1
  subst e
  cases r1 with
  | cons r rr =>
    cases rr
    obtain ⟨t, rfl⟩ := r
    exact call_range_1 (range_it I1 (by omega) (by omega) q1 q2 (by simpa using q))
theorem pi_range2 {a b : Expr} {ta : TA} {p pos : Pos} (hg : Gl X "range") (hm : X.mg "range" = none) (ha : PA X [a, b] ta) (hs : starEach [a, b] X.env = [(false, eval a X.env), (false, eval b X.env)] := by rfl) (hs2 : starEach [b] X.env = [(false, eval b X.env)] := by rfl) :
    PI X tg (.Call (.Name "range" p) [a, b] [] pos) (iRng2 ta) := by
  intro pins s σ H R I h
  refine Call_ (ld_blt I hg hm boot_range (PyProof.Rows.callWith_type1 (thn (ha pos pins s σ H _ I h) fun us s1 ⟨vs, H1, I1, r1, q1⟩ => ?_) (by rw [hs, hs2]) (by rw [hs2]; rfl)))
  obtain ⟨i, j, e, ⟨q1, q2, q3, q4⟩, q⟩ := q1
  subst e
  cases r1 with
  | cons r rr =>
    cases rr with
    | cons r' rr =>
      cases rr
      obtain ⟨t, rfl⟩ := r
      obtain ⟨t', rfl⟩ := r'
      exact call_range_2 (range_it I1 q1 q2 q3 q4 q)

/-! ### for -/
/-- W: the invariant by the turn and a measure; N: what the body is to reach -/
def tFor (wi : TI) (g : TG) (tb : TS) : TS := fun D σ H => wi σ H fun J H1 => ∃ W : Nat → Nat → St → Hp → Prop, (∃ m, W 0 m σ H1) ∧ ∀ i m σ H, W i m σ H →
  (J.stop i H ∧ D.nx σ H) ∨ (J.go i H ∧ ∃ N : St → Hp → Prop, (∀ σ' H', N σ' H' → ∃ m', m' < m ∧ W (i + 1) m' σ' H') ∧ ∀ x H', J.yld i H x H' → g x σ H' fun σ2 H2 => tb { D with nx := N, ct := N, bk := D.nx } σ2 H2)
/-- the records at fp as they stand -/
def pinsAt (fp : List Addr) (h : Heap) : List (Addr × Obj) := fp.filterMap fun b => (h.get? b).map fun o => (b, o)
theorem mem_pinsAt {fp : List Addr} {h : Heap} {b : Addr} {o : Obj} (hb : b ∈ fp) (e : h.get? b = some o) : (b, o) ∈ pinsAt fp h := List.mem_filterMap.mpr ⟨b, hb, by rw [e]; rfl⟩
theorem of_pinsAt {fp : List Addr} {h : Heap} {p : Addr × Obj} (hp : p ∈ pinsAt fp h) : p.1 ∈ fp ∧ h.get? p.1 = some p.2 := by
  obtain ⟨b, hb, e⟩ := List.mem_filterMap.mp hp
  cases q : h.get? b with
  | none => rw [q] at e; cases e
  | some o =>
    rw [q] at e
    have e' : (b, o) = p := Option.some.inj e
    subst e'
    exact ⟨hb, q⟩
theorem Inv.pinned {pins : List (Addr × Obj)} {σ : St} {H : Hp} {s : Shared} {fp : List Addr} (I : Inv X pins σ H s) (hf : ∀ b ∈ fp, FpOk X pins H b) (ho : ∀ b ∈ fp, ∃ o, s.heap.get? b = some o ∧ ∀ v, o.data ≠ .cell v) : Inv X (pins ++ pinsAt fp s.heap) σ H s :=
  I.pins_of fun p hp => (List.mem_append.mp hp).elim (fun z => I.pin p (List.mem_append_right _ z)) fun z => by
    obtain ⟨hb, e⟩ := of_pinsAt z
    obtain ⟨f0, f1, f2, _⟩ := hf p.1 hb
    obtain ⟨o, e', d⟩ := ho p.1 hb
    rw [e] at e'; cases e'
    exact ⟨e, f0, f1, f2, d⟩
theorem Inv.unpinned {pins pl : List (Addr × Obj)} {σ : St} {H : Hp} {s : Shared} (I : Inv X (pins ++ pl) σ H s) : Inv X pins σ H s := I.pins_of fun p hp => I.pin p (List.mem_append_right _ (List.mem_append_left _ hp))
theorem ps_for {iter : Expr} {body : List Stmt} {wi : TI} {g : TG} {tb : TS} {pos : Pos} (hp : PassesOwn (model X.prog X.w) X.A X.env X.xe) (hc : X.calm = true) (hi : PI X tg iter wi) (hg : PG X tg g) (hb : PSs X body tb)
    (hs : ∀ x, foldedSetIterable iter X.env x = pure x := by intro _; rfl) : PS X (.For tg iter body [] pos) (tFor wi g tb) := by
  intro pins s σ H D I h
  refine wpAny_For (thn (hi pins s σ H _ I h) fun v s1 h1 => thn h1 fun itv s2 h2 => ?_) hs
  obtain ⟨it, fp, tn, J, H2, e, I2, T, st2, f2, W, ⟨m0, w0⟩, turn⟩ := h2
  subst e
  -- what stays true of the iterator's objects through the loop
  have stat : ∀ {H' : Hp}, (∀ b ∈ fp, H' b = none) → ∀ b ∈ fp, FpOk X pins H' b := fun hn b hb => ⟨hn b hb, (f2 b hb).2⟩
  refine codeAny_forLoop_any (fun n s' => ∃ i σ' H', Inv X pins σ' H' s' ∧ tn i s'.heap ∧ (∀ b ∈ fp, H' b = none) ∧ W i n σ' H') ?_ m0 ⟨0, σ, H2, I2, st2, fun b hb => (f2 b hb).1, w0⟩
  rintro n s3 ⟨i, σ3, H3, I3, st3, fr3, w3⟩
  rcases turn i n σ3 H3 w3 with ⟨stop, qn⟩ | ⟨go, N, hN, step⟩
  · refine wpAny_passesOwn hp (thn (T.done X rfl rfl rfl hc i pins s3 σ3 H3 X.xe I3 (stat fr3) st3 stop) fun r s4 ⟨hr, I4⟩ => ?_)
    subst hr
    exact wpAny_execs_nil ⟨σ3, H3, I4, qn⟩
  · refine wpAny_passesOwn hp (thn (T.item X rfl rfl rfl hc i pins s3 σ3 H3 X.xe I3 (stat fr3) st3 go) fun r s4 ⟨u, hr, h4⟩ => ?_)
    subst hr
    refine wpAny_passesOwn hp (thn h4 fun _ s5 ⟨x, H5, I5, r5, y5, st5, fr5⟩ => ?_)
    have I5' := I5.pinned (stat fr5) (T.obj _ _ st5)
    refine wpAny_passesOwn hp (thn (hg _ s5 σ3 H5 x u _ I5' r5 (step x H5 y5)) fun _ s6 ⟨σ6, H6, I6, q6⟩ => ?_)
    refine wpAny_passesOwn hp (thn (hb _ s6 σ6 H6 _ I6 q6) fun f s7 q7 => ?_)
    have again : ∀ {σ7 : St} {H7 : Hp}, Inv X (pins ++ pinsAt fp s5.heap) σ7 H7 s7 → N σ7 H7 → ∃ m, m < n ∧ ∃ i σ' H', Inv X pins σ' H' s7 ∧ tn i s7.heap ∧ (∀ b ∈ fp, H' b = none) ∧ W i m σ' H' := fun {σ7 H7} I7 n7 => by
      obtain ⟨m', hm, w7⟩ := hN σ7 H7 n7
      refine ⟨m', hm, i + 1, σ7, H7, I7.unpinned, T.keep _ _ _ st5 fun b hb o e => (I7.pin (b, o) (List.mem_append_right _ (List.mem_append_right _ (mem_pinsAt hb e)))).1, fun b hb => ?_, w7⟩
      obtain ⟨o, e, d⟩ := T.obj _ _ st5 b hb
      exact (I7.pin (b, o) (List.mem_append_right _ (List.mem_append_right _ (mem_pinsAt hb e)))).2.1
    cases f with
    | next => obtain ⟨σ7, H7, I7, n7⟩ := q7; exact again I7 n7
    | cont => obtain ⟨σ7, H7, I7, n7⟩ := q7; exact again I7 n7
    | brk => obtain ⟨σ7, H7, I7, q7⟩ := q7; exact ⟨σ7, H7, I7.unpinned, q7⟩
    | ret v => obtain ⟨x7, σ7, H7, I7, r7, q7⟩ := q7; exact ⟨x7, σ7, H7, I7.unpinned, r7, q7⟩
end

/-! ### the forms one uses -/
/-- over a list that the body leaves as it is -/
theorem for_list {K : PySem.W.Frag} {a : Addr} {xs : List V} {g : TG} {tb : TS} {D : Ends} {σ : St} {H : Hp} (Pv : Nat → St → Hp → Prop) (h0 : Pv 0 σ H) (hl : ∀ i σ H, i ≤ xs.length → Pv i σ H → SqL K H a xs)
    (hs : ∀ i x σ H, xs[i]? = some x → Pv i σ H → g x σ H fun σ2 H2 => tb { D with nx := Pv (i + 1), ct := Pv (i + 1), bk := D.nx } σ2 H2) (hd : ∀ σ H, Pv xs.length σ H → D.nx σ H) :
    ∃ W : Nat → Nat → St → Hp → Prop, (∃ m, W 0 m σ H) ∧ ∀ i m σ H, W i m σ H →
      ((Itl K a).stop i H ∧ D.nx σ H) ∨ ((Itl K a).go i H ∧ ∃ N : St → Hp → Prop, (∀ σ' H', N σ' H' → ∃ m', m' < m ∧ W (i + 1) m' σ' H') ∧ ∀ x H', (Itl K a).yld i H x H' → g x σ H' fun σ2 H2 => tb { D with nx := N, ct := N, bk := D.nx } σ2 H2) := by
  refine ⟨fun i m σ H => m = xs.length - i ∧ i ≤ xs.length ∧ Pv i σ H, ⟨xs.length, by simp, Nat.zero_le _, h0⟩, ?_⟩
  rintro i m σ H ⟨rfl, hi, p⟩
  have q := hl i σ H hi p
  by_cases hlt : i < xs.length
  · refine .inr ⟨⟨xs, xs[i], q, by simp [hlt]⟩, Pv (i + 1), fun σ' H' p' => ⟨xs.length - (i + 1), by omega, rfl, hlt, p'⟩, fun x H' y => ?_⟩
    obtain ⟨e, y⟩ := y
    subst e
    exact hs i x σ _ (y xs q) p
  · have e : i = xs.length := by omega
    subst e
    exact .inl ⟨⟨xs, q, Nat.le_refl _⟩, hd σ H p⟩
theorem for_tup {K : PySem.W.Frag} {a : Addr} {xs : List V} {g : TG} {tb : TS} {D : Ends} {σ : St} {H : Hp} (Pv : Nat → St → Hp → Prop) (h0 : Pv 0 σ H) (hl : ∀ i σ H, i ≤ xs.length → Pv i σ H → SqT K H a xs)
    (hs : ∀ i x σ H, xs[i]? = some x → Pv i σ H → g x σ H fun σ2 H2 => tb { D with nx := Pv (i + 1), ct := Pv (i + 1), bk := D.nx } σ2 H2) (hd : ∀ σ H, Pv xs.length σ H → D.nx σ H) :
    ∃ W : Nat → Nat → St → Hp → Prop, (∃ m, W 0 m σ H) ∧ ∀ i m σ H, W i m σ H →
      ((Itt K a).stop i H ∧ D.nx σ H) ∨ ((Itt K a).go i H ∧ ∃ N : St → Hp → Prop, (∀ σ' H', N σ' H' → ∃ m', m' < m ∧ W (i + 1) m' σ' H') ∧ ∀ x H', (Itt K a).yld i H x H' → g x σ H' fun σ2 H2 => tb { D with nx := N, ct := N, bk := D.nx } σ2 H2) := by
  refine ⟨fun i m σ H => m = xs.length - i ∧ i ≤ xs.length ∧ Pv i σ H, ⟨xs.length, by simp, Nat.zero_le _, h0⟩, ?_⟩
  rintro i m σ H ⟨rfl, hi, p⟩
  have q := hl i σ H hi p
  by_cases hlt : i < xs.length
  · refine .inr ⟨⟨xs, xs[i], q, by simp [hlt]⟩, Pv (i + 1), fun σ' H' p' => ⟨xs.length - (i + 1), by omega, rfl, hlt, p'⟩, fun x H' y => ?_⟩
    obtain ⟨e, y⟩ := y
    subst e
    exact hs i x σ _ (y xs q) p
  · have e : i = xs.length := by omega
    subst e
    exact .inl ⟨⟨xs, q, Nat.le_refl _⟩, hd σ H p⟩
theorem for_range {lo : Int} {n : Nat} {g : TG} {tb : TS} {D : Ends} {σ : St} {H : Hp} (Pv : Nat → St → Hp → Prop) (h0 : Pv 0 σ H)
    (hs : ∀ i σ H, i < n → Pv i σ H → g (.int (lo + i)) σ H fun σ2 H2 => tb { D with nx := Pv (i + 1), ct := Pv (i + 1), bk := D.nx } σ2 H2) (hd : ∀ σ H, Pv n σ H → D.nx σ H) :
    ∃ W : Nat → Nat → St → Hp → Prop, (∃ m, W 0 m σ H) ∧ ∀ i m σ H, W i m σ H →
      ((Itr lo n).stop i H ∧ D.nx σ H) ∨ ((Itr lo n).go i H ∧ ∃ N : St → Hp → Prop, (∀ σ' H', N σ' H' → ∃ m', m' < m ∧ W (i + 1) m' σ' H') ∧ ∀ x H', (Itr lo n).yld i H x H' → g x σ H' fun σ2 H2 => tb { D with nx := N, ct := N, bk := D.nx } σ2 H2) := by
  refine ⟨fun i m σ H => m = n - i ∧ i ≤ n ∧ Pv i σ H, ⟨n, by simp, Nat.zero_le _, h0⟩, ?_⟩
  rintro i m σ H ⟨rfl, hi, p⟩
  by_cases hlt : i < n
  · refine .inr ⟨hlt, Pv (i + 1), fun σ' H' p' => ⟨n - (i + 1), by omega, rfl, hlt, p'⟩, fun x H' y => ?_⟩
    obtain ⟨e, y⟩ := y
    subst e y
    exact hs i σ _ hlt p
  · have e : i = n := by omega
    subst e
    exact .inl ⟨Nat.le_refl _, hd σ H p⟩
/-- while, by a word and a measure of the state -/
theorem while_by {c : TT} {tb : TS} {D : Ends} {σ : St} {H : Hp} (Pv : St → Hp → Prop) (μ : St → Hp → Nat) (h0 : Pv σ H)
    (hs : ∀ σ H, Pv σ H → c σ H fun b H1 => if b = true then tb { D with nx := fun σ' H' => Pv σ' H' ∧ μ σ' H' < μ σ H, ct := fun σ' H' => Pv σ' H' ∧ μ σ' H' < μ σ H, bk := D.nx } σ H1 else D.nx σ H1)
    (mono : ∀ σ H Q Q', (∀ b H1, Q b H1 → Q' b H1) → c σ H Q → c σ H Q') : tWhile c tb D σ H := by
  refine ⟨fun m σ H => m = μ σ H ∧ Pv σ H, ⟨_, rfl, h0⟩, ?_⟩
  rintro m σ H ⟨rfl, p⟩
  refine mono σ H _ _ (fun b H1 q => ?_) (hs σ H p)
  cases b with
  | true => exact ⟨_, fun σ' H' ⟨p', l⟩ => ⟨_, l, rfl, p'⟩, q⟩
  | false => exact q
end L2

namespace L2
open PySem PySem.Spec PyProof.Rows

abbrev R2 := V → V → Hp → VK → Prop
/-- a two-place operation on values: f is binaryOp op, inplaceOp op or compareOp op -/
def OpR (X : Cx) (f : Value → Value → Sem Value) (r : R2) : Prop :=
  ∀ (pins : List (Addr × Obj)) (s : Shared) (σ : St) (H : Hp) (x y : V) (v u : Value) (Q : VK), Inv X pins σ H s → RelV x v → RelV y u → r x y H Q →
    wpAny (model X.prog X.w) X.A (f v u) (EP X pins σ Q) X.xe s
/-- a one-place operation -/
def UnR (X : Cx) (f : Value → Sem Value) (r : V → Hp → VK → Prop) : Prop :=
  ∀ (pins : List (Addr × Obj)) (s : Shared) (σ : St) (H : Hp) (x : V) (v : Value) (Q : VK), Inv X pins σ H s → RelV x v → r x H Q →
    wpAny (model X.prog X.w) X.A (f v) (EP X pins σ Q) X.xe s
/-- a call of a value that is known (a builtin, a type) with values -/
def CallR (X : Cx) (f : Value) (r : List V → Hp → VK → Prop) : Prop :=
  ∀ (pins : List (Addr × Obj)) (s : Shared) (σ : St) (H : Hp) (xs : List V) (us : List Value) (Q : VK), Inv X pins σ H s → Vals xs us → r xs H Q →
    wpAny (model X.prog X.w) X.A (call f us) (EP X pins σ Q) X.xe s
/-- a value's truth -/
def TruR (X : Cx) (r : V → Hp → (Bool → Hp → Prop) → Prop) : Prop :=
  ∀ (pins : List (Addr × Obj)) (s : Shared) (σ : St) (H : Hp) (x : V) (v : Value) (Q : Bool → Hp → Prop), Inv X pins σ H s → RelV x v → r x H Q →
    wpAny (model X.prog X.w) X.A (truthy v) (TP X pins σ Q) X.xe s

def tOp (r : R2) (ta tb : TE) : TE := fun σ H Q => ta σ H fun x H1 => tb σ H1 fun y H2 => r x y H2 Q
def tUn (r : V → Hp → VK → Prop) (ta : TE) : TE := fun σ H Q => ta σ H fun x H1 => r x H1 Q
/-- ints in, under C, and a value out -/
def rI (C : Int → Int → Prop) (g : Int → Int → V) : R2 := fun x y H Q => ∃ i j, x = .int i ∧ y = .int j ∧ C i j ∧ Q (g i j) H
def rI0 (g : Int → Int → V) : R2 := fun x y H Q => ∃ i j, x = .int i ∧ y = .int j ∧ Q (g i j) H
def rU (g : Int → V) : V → Hp → VK → Prop := fun x H Q => ∃ i, x = .int i ∧ Q (g i) H

section
variable {X : Cx} {a b c : Expr} {ta tb tc : TE} {pos : Pos}

theorem binT (ha : PE X a ta) (hb : PE X b tb) {pins : List (Addr × Obj)} {s : Shared} {σ : St} {H : Hp} {R : V → V → Hp → Prop} (I : Inv X pins σ H s)
    (h : ta σ H fun x H1 => tb σ H1 fun y H2 => R x y H2) {Q : Value → Shared → Prop} {f : Value → Value → Sem Value}
    (hf : ∀ v u s2 x y H2, Inv X pins σ H2 s2 → RelV x v → RelV y u → R x y H2 → wpAny (model X.prog X.w) X.A (f v u) Q X.xe s2) :
    wpAny (model X.prog X.w) X.A (eval a X.env) (fun v s₁ => wpAny (model X.prog X.w) X.A (eval b X.env) (fun u s₂ => wpAny (model X.prog X.w) X.A (f v u) Q X.xe s₂) X.xe s₁) X.xe s := by
  refine thn (ha pins s σ H _ I h) fun v s1 ⟨x, H1, I1, r1, q1⟩ => ?_
  refine thn (hb pins s1 σ H1 _ I1 q1) fun u s2 ⟨y, H2, I2, r2, q2⟩ => ?_
  exact hf v u s2 x y H2 I2 r1 r2 q2

theorem pe_op {op : Operator} {r : R2} (ho : OpR X (binaryOp op) r) (ha : PE X a ta) (hb : PE X b tb) : PE X (.BinOp a op b pos) (tOp r ta tb) := by
  intro pins s σ H Q I h
  exact wpAny_BinOp (binT ha hb I h fun v u s2 x y H2 I2 rx ry q => ho pins s2 σ H2 x y v u Q I2 rx ry q)
theorem pe_un {op : UnaryOp} {r : V → Hp → VK → Prop} (ho : UnR X (unaryOp op) r) (ha : PE X a ta) : PE X (.UnaryOp op a pos) (tUn r ta) := by
  intro pins s σ H Q I h
  exact UnaryOp_ (thn (ha pins s σ H _ I h) fun v s1 ⟨x, H1, I1, r1, q1⟩ => ho pins s1 σ H1 x v Q I1 r1 q1)
/-- a op= e at a name: the name's slot i -/
theorem augR {op : Operator} {r : R2} (ho : OpR X (inplaceOp op) r) {pins : List (Addr × Obj)} {s : Shared} {σ : St} {H : Hp} {x y : V} {v u : Value} {Q : VK} (I : Inv X pins σ H s)
    (rx : RelV x v) (ry : RelV y u) (q : r x y H Q) : wpAny (model X.prog X.w) X.A (inplaceOp op v u) (EP X pins σ Q) X.xe s := ho pins s σ H x y v u Q I rx ry q

/-! ### ints -/
theorem opI {f : Value → Value → Sem Value} {C : Int → Int → Prop} {g : Int → Int → Int}
    (rule : ∀ (i j : Int) (t u : Tok) (s : Shared) (Q : Value → Shared → Prop) (E : Value → Shared → Prop), C i j → Q (.int (g i j) s.toks) { s with toks := s.toks + 1 } → wpAny (model X.prog X.w) X.A (f (.int i t) (.int j u)) Q E s) :
    OpR X f (rI C fun i j => .int (g i j)) := by
  intro pins s σ H x y v u Q I rx ry h
  obtain ⟨i, j, rfl, rfl, hc, q⟩ := h
  obtain ⟨t, rfl⟩ := rx
  obtain ⟨t', rfl⟩ := ry
  exact rule i j t t' s _ _ hc ⟨.int (g i j), H, I.tok _, ⟨_, rfl⟩, q⟩
theorem opI0 {f : Value → Value → Sem Value} {g : Int → Int → Int}
    (rule : ∀ (i j : Int) (t u : Tok) (s : Shared) (Q : Value → Shared → Prop) (E : Value → Shared → Prop), Q (.int (g i j) s.toks) { s with toks := s.toks + 1 } → wpAny (model X.prog X.w) X.A (f (.int i t) (.int j u)) Q E s) :
    OpR X f (rI0 fun i j => .int (g i j)) := by
  intro pins s σ H x y v u Q I rx ry h
  obtain ⟨i, j, rfl, rfl, q⟩ := h
  obtain ⟨t, rfl⟩ := rx
  obtain ⟨t', rfl⟩ := ry
  exact rule i j t t' s _ _ ⟨.int (g i j), H, I.tok _, ⟨_, rfl⟩, q⟩
theorem opB0 {f : Value → Value → Sem Value} {g : Int → Int → Bool}
    (rule : ∀ (i j : Int) (t u : Tok) (s : Shared) (Q : Value → Shared → Prop) (E : Value → Shared → Prop), Q (.bool (g i j)) s → wpAny (model X.prog X.w) X.A (f (.int i t) (.int j u)) Q E s) :
    OpR X f (rI0 fun i j => .bl (g i j)) := by
  intro pins s σ H x y v u Q I rx ry h
  obtain ⟨i, j, rfl, rfl, q⟩ := h
  obtain ⟨t, rfl⟩ := rx
  obtain ⟨t', rfl⟩ := ry
  exact rule i j t t' s _ _ ⟨.bl (g i j), H, I, rfl, q⟩

def CDiv (i j : Int) : Prop := 0 < j ∧ j < 1073741824
def CDivN (i j : Int) : Prop := j ≠ 0 ∧ j.natAbs < 1073741824
def CPow (i j : Int) : Prop := 0 ≤ j ∧ j ≤ 1000000 ∧ i.natAbs < 2 ^ 64
def CMul (i j : Int) : Prop := (-(2 ^ 64) < i ∧ i < 2 ^ 64) ∨ (-(2 ^ 64) < j ∧ j < 2 ^ 64)
theorem CMul.ok {i j : Int} (h : CMul i j) : IntMulOk i j := by
  rcases h with ⟨h1, h2⟩ | ⟨h1, h2⟩
  · exact .of_left (intBits_le_64 h1 h2)
  · exact .of_right (intBits_le_64 h1 h2)
theorem two_pow_nn (k : Nat) : (0 : Int) ≤ 2 ^ k := by
  rw [two_pow_cast]
  exact Int.natCast_nonneg _

theorem op_add : OpR X (binaryOp .Add) (rI0 fun i j => .int (i + j)) := opI0 fun _ _ _ _ _ _ _ q => add_int q
theorem op_sub : OpR X (binaryOp .Sub) (rI0 fun i j => .int (i - j)) := opI0 fun _ _ _ _ _ _ _ q => sub_int q
theorem op_mul : OpR X (binaryOp .Mult) (rI CMul fun i j => .int (i * j)) := opI fun _ _ _ _ _ _ _ hc q => mul_int q hc.ok
/-- // by a positive divisor -/
theorem op_fdiv : OpR X (binaryOp .FloorDiv) (rI CDiv fun i j => .int (i / j)) := opI fun i j _ _ _ _ _ hc q => by
  have h1 : (0 : Int) < j := hc.1
  have h2 : j < 1073741824 := hc.2
  exact floordiv_int (by omega) (by rw [Int.fdiv_eq_ediv_of_nonneg i (by omega)]; exact q) (.inl (PyProof.noPylong_small (by omega)))
theorem op_fdivN : OpR X (binaryOp .FloorDiv) (rI CDivN fun i j => .int (i.fdiv j)) := opI fun _ _ _ _ _ _ _ hc q => floordiv_int hc.1 q (.inl (PyProof.noPylong_small hc.2))
/-- % by a positive divisor of any size -/
theorem op_mod : OpR X (binaryOp .Mod) (rI (fun _ j => 0 < j) fun i j => .int (i % j)) := opI fun i j _ _ _ _ _ hc q => by
  have h1 : (0 : Int) < j := hc
  exact mod_int' (by omega) (by rw [Int.fmod_eq_emod_of_nonneg i (by omega)]; exact q)
theorem op_modN : OpR X (binaryOp .Mod) (rI (fun _ j => j ≠ 0) fun i j => .int (i.fmod j)) := opI fun _ _ _ _ _ _ _ hc q => mod_int' hc q
theorem op_pow : OpR X (binaryOp .Pow) (rI CPow fun i j => .int (i ^ j.toNat)) := opI fun _ _ _ _ _ _ _ hc q => pow_int_small hc.1 hc.2.1 hc.2.2 q
theorem op_shl : OpR X (binaryOp .LShift) (rI CPow fun i j => .int (i * 2 ^ j.toNat)) := opI fun _ _ _ _ _ _ _ hc q => lshift_int_small hc.1 hc.2.1 hc.2.2 q
theorem op_shr : OpR X (binaryOp .RShift) (rI (fun _ j => 0 ≤ j) fun i j => .int (i / 2 ^ j.toNat)) := opI fun i j _ _ _ _ _ hc q =>
  rshift_int hc (by rw [Int.fdiv_eq_ediv_of_nonneg i (two_pow_nn _)]; exact q)
theorem op_and : OpR X (binaryOp .BitAnd) (rI0 fun i j => .int (Builtin.bitAnd i j)) := opI0 fun _ _ _ _ _ _ _ q => and_int q
theorem op_or : OpR X (binaryOp .BitOr) (rI0 fun i j => .int (Builtin.bitOr i j)) := opI0 fun _ _ _ _ _ _ _ q => or_int q
theorem op_xor : OpR X (binaryOp .BitXor) (rI0 fun i j => .int (Builtin.bitXor i j)) := opI0 fun _ _ _ _ _ _ _ q => xor_int q

theorem iop_add : OpR X (inplaceOp .Add) (rI0 fun i j => .int (i + j)) := opI0 fun _ _ _ _ _ _ _ q => iadd_int q
theorem iop_sub : OpR X (inplaceOp .Sub) (rI0 fun i j => .int (i - j)) := opI0 fun _ _ _ _ _ _ _ q => isub_int q
theorem iop_mul : OpR X (inplaceOp .Mult) (rI CMul fun i j => .int (i * j)) := opI fun _ _ _ _ _ _ _ hc q => imul_int q hc.ok
theorem iop_fdiv : OpR X (inplaceOp .FloorDiv) (rI CDiv fun i j => .int (i / j)) := opI fun i j _ _ _ _ _ hc q => by
  have h1 : (0 : Int) < j := hc.1
  have h2 : j < 1073741824 := hc.2
  exact ifloordiv_int (by omega) (by rw [Int.fdiv_eq_ediv_of_nonneg i (by omega)]; exact q) (.inl (PyProof.noPylong_small (by omega)))
theorem iop_mod : OpR X (inplaceOp .Mod) (rI (fun _ j => 0 < j) fun i j => .int (i % j)) := opI fun i j _ _ _ _ _ hc q => by
  have h1 : (0 : Int) < j := hc
  exact imod_int (by omega) (by rw [Int.fmod_eq_emod_of_nonneg i (by omega)]; exact q)
theorem iop_shl : OpR X (inplaceOp .LShift) (rI CPow fun i j => .int (i * 2 ^ j.toNat)) := opI fun _ _ _ _ _ _ _ hc q => ilshift_int_small hc.1 hc.2.1 hc.2.2 q
theorem iop_shr : OpR X (inplaceOp .RShift) (rI (fun _ j => 0 ≤ j) fun i j => .int (i / 2 ^ j.toNat)) := opI fun i j _ _ _ _ _ hc q =>
  irshift_int hc (by rw [Int.fdiv_eq_ediv_of_nonneg i (two_pow_nn _)]; exact q)
theorem iop_and : OpR X (inplaceOp .BitAnd) (rI0 fun i j => .int (Builtin.bitAnd i j)) := opI0 fun _ _ _ _ _ _ _ q => iand_int q
theorem iop_or : OpR X (inplaceOp .BitOr) (rI0 fun i j => .int (Builtin.bitOr i j)) := opI0 fun _ _ _ _ _ _ _ q => ior_int q
theorem iop_xor : OpR X (inplaceOp .BitXor) (rI0 fun i j => .int (Builtin.bitXor i j)) := opI0 fun _ _ _ _ _ _ _ q => ixor_int q

theorem unI {f : Value → Sem Value} {g : Int → Int}
    (rule : ∀ (i : Int) (t : Tok) (s : Shared) (Q : Value → Shared → Prop) (E : Value → Shared → Prop), Q (.int (g i) s.toks) { s with toks := s.toks + 1 } → wpAny (model X.prog X.w) X.A (f (.int i t)) Q E s) :
    UnR X f (rU fun i => .int (g i)) := by
  intro pins s σ H x v Q I rx h
  obtain ⟨i, rfl, q⟩ := h
  obtain ⟨t, rfl⟩ := rx
  exact rule i t s _ _ ⟨.int (g i), H, I.tok _, ⟨_, rfl⟩, q⟩
theorem un_neg : UnR X (unaryOp .USub) (rU fun i => .int (-i)) := unI fun _ _ _ _ _ q => neg_int q
theorem un_inv : UnR X (unaryOp .Invert) (rU fun i => .int (Builtin.bitNot i)) := unI fun _ _ _ _ _ q => invert_int q

/-! ### bools among ints: n += (a < b) -/
theorem op_add_ib : OpR X (binaryOp .Add) (fun x y H Q => ∃ i k, x = .int i ∧ y = .bl k ∧ Q (.int (i + b2i k)) H) := by
  intro pins s σ H x y v u Q I rx ry h
  obtain ⟨i, k, rfl, rfl, q⟩ := h
  obtain ⟨t, rfl⟩ := rx
  cases ry
  exact add_int_bool ⟨.int (i + b2i k), H, I.tok _, ⟨_, rfl⟩, q⟩
end

/-! ### comparisons -/
/-- the scalars that == tells apart as data does -/
def scal : V → V → Bool
  | .non, .non => true | .non, .int _ => true | .int _, .non => true | .non, .bl _ => true | .bl _, .non => true | .non, .str _ => true | .str _, .non => true
  | .int _, .int _ => true | .bl _, .bl _ => true | .str _, .str _ => true | .byt _, .byt _ => true
  | .int _, .str _ => true | .str _, .int _ => true | .bl _, .str _ => true | .str _, .bl _ => true
  | _, _ => false
def rEq : R2 := fun x y H Q => scal x y = true ∧ Q (.bl (decide (x = y))) H
def rNe : R2 := fun x y H Q => scal x y = true ∧ Q (.bl (!decide (x = y))) H

theorem dec_int {i j : Int} : decide (V.int i = V.int j) = (i == j) := by
  rw [Bool.eq_iff_iff]
  simp
theorem dec_bl {i j : Bool} : decide (V.bl i = V.bl j) = (i == j) := by
  rw [Bool.eq_iff_iff]
  simp
theorem dec_str {i j : Str} : decide (V.str i = V.str j) = (i == j) := by
  rw [Bool.eq_iff_iff]
  simp
theorem dec_byt {i j : Array UInt8} : decide (V.byt i = V.byt j) = (i.toList == j.toList) := by
  rw [Bool.eq_iff_iff]
  cases i
  cases j
  simp

section
variable {X : Cx} {a b c : Expr} {ta tb tc : TE} {pos : Pos}
theorem fin_bl {pins : List (Addr × Obj)} {σ : St} {H : Hp} {s : Shared} {Q : VK} {k k' : Bool} (I : Inv X pins σ H s) (q : Q (.bl k) H) (e : k = k') : EP X pins σ Q (.bool k') s := by
  subst e
  exact ⟨.bl k, H, I, rfl, q⟩
theorem op_eq : OpR X (compareOp .Eq) rEq := by
  intro pins s σ H x y v u Q I rx ry h
  obtain ⟨hs, q⟩ := h
  cases x with
  | non =>
    cases rx
    cases y with
    | non => cases ry; exact PySem.EqNone.eq_none_none (fin_bl I q (by simp))
    | bl j => cases ry; exact PySem.EqNone.eq_none_bool (fin_bl I q (by simp))
    | int j => obtain ⟨t', rfl⟩ := ry; exact PySem.EqNone.eq_none_int (fin_bl I q (by simp))
    | str j => obtain ⟨t', rfl⟩ := ry; exact PySem.EqNone.eq_none_str (fin_bl I q (by simp))
    | _ => exact absurd (show false = true from hs) Bool.false_ne_true
  | bl i =>
    cases rx
    cases y with
    | non => cases ry; exact PySem.EqNone.eq_bool_none (fin_bl I q (by simp))
    | bl j => cases ry; exact eq_bool (fin_bl I q dec_bl)
    | str j => obtain ⟨t', rfl⟩ := ry; exact PySem.EqMixed.eq_bool_str (fin_bl I q (by simp))
    | _ => exact absurd (show false = true from hs) Bool.false_ne_true
  | int i =>
    obtain ⟨t, rfl⟩ := rx
    cases y with
    | non => cases ry; exact PySem.EqNone.eq_int_none (fin_bl I q (by simp))
    | int j => obtain ⟨t', rfl⟩ := ry; exact eq_int (fin_bl I q dec_int)
    | str j => obtain ⟨t', rfl⟩ := ry; exact PySem.EqMixed.eq_int_str (fin_bl I q (by simp))
    | _ => exact absurd (show false = true from hs) Bool.false_ne_true
  | str i =>
    obtain ⟨t, rfl⟩ := rx
    cases y with
    | non => cases ry; exact PySem.EqNone.eq_str_none (fin_bl I q (by simp))
    | bl j => cases ry; exact PySem.EqMixed.eq_str_bool (fin_bl I q (by simp))
    | int j => obtain ⟨t', rfl⟩ := ry; exact PySem.EqMixed.eq_str_int (fin_bl I q (by simp))
    | str j => obtain ⟨t', rfl⟩ := ry; exact eq_str (fin_bl I q dec_str)
    | _ => exact absurd (show false = true from hs) Bool.false_ne_true
  | byt i =>
    obtain ⟨t, rfl⟩ := rx
    cases y with
    | byt j => obtain ⟨t', rfl⟩ := ry; exact PySem.W.eq_bytes (fin_bl I q dec_byt)
    | _ => exact absurd (show false = true from hs) Bool.false_ne_true
  | _ => cases y <;> exact absurd (show false = true from hs) Bool.false_ne_true
theorem op_ne : OpR X (compareOp .NotEq) rNe := by
  intro pins s σ H x y v u Q I rx ry h
  obtain ⟨hs, q⟩ := h
  cases x with
  | non =>
    cases rx
    cases y with
    | non => cases ry; exact PySem.EqNone.ne_none_none (fin_bl I q (by simp))
    | bl j => cases ry; exact PySem.EqNone.ne_none_bool (fin_bl I q (by simp))
    | int j => obtain ⟨t', rfl⟩ := ry; exact PySem.EqNone.ne_none_int (fin_bl I q (by simp))
    | str j => obtain ⟨t', rfl⟩ := ry; exact PySem.EqNone.ne_none_str (fin_bl I q (by simp))
    | _ => exact absurd (show false = true from hs) Bool.false_ne_true
  | bl i =>
    cases rx
    cases y with
    | non => cases ry; exact PySem.EqNone.ne_bool_none (fin_bl I q (by simp))
    | bl j => cases ry; exact ne_bool (fin_bl I q (congrArg not dec_bl))
    | str j => obtain ⟨t', rfl⟩ := ry; exact PySem.EqMixed.ne_bool_str (fin_bl I q (by simp))
    | _ => exact absurd (show false = true from hs) Bool.false_ne_true
  | int i =>
    obtain ⟨t, rfl⟩ := rx
    cases y with
    | non => cases ry; exact PySem.EqNone.ne_int_none (fin_bl I q (by simp))
    | int j => obtain ⟨t', rfl⟩ := ry; exact ne_int (fin_bl I q (congrArg not dec_int))
    | str j => obtain ⟨t', rfl⟩ := ry; exact PySem.EqMixed.ne_int_str (fin_bl I q (by simp))
    | _ => exact absurd (show false = true from hs) Bool.false_ne_true
  | str i =>
    obtain ⟨t, rfl⟩ := rx
    cases y with
    | non => cases ry; exact PySem.EqNone.ne_str_none (fin_bl I q (by simp))
    | bl j => cases ry; exact PySem.EqMixed.ne_str_bool (fin_bl I q (by simp))
    | int j => obtain ⟨t', rfl⟩ := ry; exact PySem.EqMixed.ne_str_int (fin_bl I q (by simp))
    | str j => obtain ⟨t', rfl⟩ := ry; exact ne_str (fin_bl I q (congrArg not dec_str))
    | _ => exact absurd (show false = true from hs) Bool.false_ne_true
  | byt i =>
    obtain ⟨t, rfl⟩ := rx
    cases y with
    | byt j => obtain ⟨t', rfl⟩ := ry; exact PySem.W.ne_bytes (fin_bl I q (congrArg not dec_byt))
    | _ => exact absurd (show false = true from hs) Bool.false_ne_true
  | _ => cases y <;> exact absurd (show false = true from hs) Bool.false_ne_true

theorem op_lt : OpR X (compareOp .Lt) (rI0 fun i j => .bl (decide (i < j))) := opB0 fun _ _ _ _ _ _ _ q => lt_int q
theorem op_le : OpR X (compareOp .LtE) (rI0 fun i j => .bl (decide (i ≤ j))) := opB0 fun _ _ _ _ _ _ _ q => le_int q
theorem op_gt : OpR X (compareOp .Gt) (rI0 fun i j => .bl (decide (j < i))) := opB0 fun _ _ _ _ _ _ _ q => gt_int q
theorem op_ge : OpR X (compareOp .GtE) (rI0 fun i j => .bl (decide (j ≤ i))) := opB0 fun _ _ _ _ _ _ _ q => ge_int q
theorem op_lt_str : OpR X (compareOp .Lt) (fun x y H Q => ∃ i j, x = .str i ∧ y = .str j ∧ Q (.bl (decide (i.cps.toList < j.cps.toList))) H) := by
  intro pins s σ H x y v u Q I rx ry h
  obtain ⟨i, j, rfl, rfl, q⟩ := h
  obtain ⟨t, rfl⟩ := rx
  obtain ⟨t', rfl⟩ := ry
  exact lt_str (fin_bl I q rfl)
/-- the one string within the other -/
theorem op_in_str : OpR X (compareOp .In) (fun x y H Q => ∃ i j, x = .str i ∧ y = .str j ∧ Q (.bl (!(Builtin.Str.occurrences j i 0 j.length 1).isEmpty)) H) := by
  intro pins s σ H x y v u Q I rx ry h
  obtain ⟨i, j, rfl, rfl, q⟩ := h
  obtain ⟨t, rfl⟩ := rx
  obtain ⟨t', rfl⟩ := ry
  exact in_str (fin_bl I q rfl)

/-- is None, is not None: the right side a value none -/
theorem op_isN : OpR X (compareOp .Is) (fun x y H Q => y = .non ∧ Q (.bl (decide (x = .non))) H) := by
  intro pins s σ H x y v u Q I rx ry h
  obtain ⟨rfl, q⟩ := h
  cases ry
  refine is_none_gen (fin_bl I q ?_)
  cases x <;> first
    | (cases rx; rfl)
    | (obtain ⟨t, rfl⟩ := rx; rfl)
theorem op_notN : OpR X (compareOp .IsNot) (fun x y H Q => y = .non ∧ Q (.bl (!decide (x = .non))) H) := by
  intro pins s σ H x y v u Q I rx ry h
  obtain ⟨rfl, q⟩ := h
  cases ry
  refine isnot_none_gen (fin_bl I q ?_)
  cases x <;> first
    | (cases rx; rfl)
    | (obtain ⟨t, rfl⟩ := rx; rfl)

theorem op_notin_str : OpR X (compareOp .NotIn) (fun x y H Q => ∃ i j, x = .str i ∧ y = .str j ∧ Q (.bl (!(!(Builtin.Str.occurrences j i 0 j.length 1).isEmpty))) H) := by
  intro pins s σ H x y v u Q I rx ry h
  obtain ⟨i, j, rfl, rfl, q⟩ := h
  obtain ⟨t, rfl⟩ := rx
  obtain ⟨t', rfl⟩ := ry
  exact notIn_str (fin_bl I q rfl)
/-- is, is not of two objects that are tracked lists or instances -/
def isObj : HO → Bool
  | .lst _ => true
  | .ins _ _ _ => true
  | _ => false
theorem obj_there {pins : List (Addr × Obj)} {s : Shared} {σ : St} {H : Hp} {a : Addr} {o : HO} (I : Inv X pins σ H s) (h : H a = some o) (p : isObj o = true) : ∃ ob, s.heap.get? a = some ob ∧ ob.cls ≠ .type "tuple" := by
  cases o with
  | lst xs =>
    obtain ⟨_, its, n, _, e⟩ : xs.length ≤ sizeLine ∧ ∃ (its : List Value) (n : Nat), Vals xs its ∧ s.heap.get? a = some { cls := .type "list", data := .seq its.toArray n } := I.hok a _ h
    exact ⟨_, e, (by show Value.type "list" ≠ .type "tuple"; decide +kernel)⟩
  | ins C dx fs =>
    have x := I.hok a _ h
    obtain ⟨_, _, _, e, _⟩ := x
    exact ⟨_, e, (by show Value.ref C ≠ .type "tuple"; exact fun z => by cases z)⟩
  | _ => exact absurd (show false = true from p) Bool.false_ne_true
theorem op_is_ref : OpR X (compareOp .Is) (fun x y H Q => ∃ a b oa ob, x = .ref a ∧ y = .ref b ∧ H a = some oa ∧ isObj oa = true ∧ H b = some ob ∧ isObj ob = true ∧ Q (.bl (decide (a = b))) H) := by
  intro pins s σ H x y v u Q I rx ry h
  obtain ⟨a, b, oa, ob, rfl, rfl, ha, pa, hb, pb, q⟩ := h
  cases rx
  cases ry
  obtain ⟨o1, e1, n1⟩ := obj_there I ha pa
  obtain ⟨o2, e2, _⟩ := obj_there I hb pb
  by_cases z : a = b
  · subst z
    exact wpAny_is_ref_self (fin_bl I q (by simp))
  · exact wpAny_is_ref_other z e1 e2 n1 (fin_bl I q (by simp [z]))
theorem op_isnot_ref : OpR X (compareOp .IsNot) (fun x y H Q => ∃ a b oa ob, x = .ref a ∧ y = .ref b ∧ H a = some oa ∧ isObj oa = true ∧ H b = some ob ∧ isObj ob = true ∧ Q (.bl (!decide (a = b))) H) := by
  intro pins s σ H x y v u Q I rx ry h
  obtain ⟨a, b, oa, ob, rfl, rfl, ha, pa, hb, pb, q⟩ := h
  cases rx
  cases ry
  obtain ⟨o1, e1, n1⟩ := obj_there I ha pa
  obtain ⟨o2, e2, _⟩ := obj_there I hb pb
  by_cases z : a = b
  · subst z
    exact wpAny_isNot_ref_self (fin_bl I q (by simp))
  · exact wpAny_isNot_ref_other z e1 e2 n1 (fin_bl I q (by simp [z]))

/-- two rules for one operation: by cases -/
theorem OpR.or {f : Value → Value → Sem Value} {r r' : R2} (h : OpR X f r) (h' : OpR X f r') : OpR X f (fun x y H Q => r x y H Q ∨ r' x y H Q) := by
  intro pins s σ H x y v u Q I rx ry q
  rcases q with q | q
  · exact h pins s σ H x y v u Q I rx ry q
  · exact h' pins s σ H x y v u Q I rx ry q

theorem nomark (b : Expr) {op : CmpOp} (h : op ≠ .In := by decide) (h2 : op ≠ .NotIn := by decide) : behindInMarks op b = false := by
  have e1 : (op == CmpOp.In) = false := by cases op <;> first | rfl | exact absurd rfl h
  have e2 : (op == CmpOp.NotIn) = false := by cases op <;> first | rfl | exact absurd rfl h2
  cases b <;> simp [behindInMarks, e1, e2]
/-- a comparison as a value; hm: nomark b, or (for in, not in) by with_unfolding_all rfl -/
theorem pe_cmpR {op : CmpOp} {r : R2} (ho : OpR X (compareOp op) r) (ha : PE X a ta) (hb : PE X b tb) (hm : behindInMarks op b = false) : PE X (.Compare a [op] [b] pos) (tOp r ta tb) := by
  intro pins s σ H Q I h
  exact wpAny_Compare1 (binT ha hb I h fun v u s2 x y H2 I2 rx ry q => ho pins s2 σ H2 x y v u Q I2 rx ry q) hm
/-- a reading of a value as a test -/
def tTest (t : TE) : TT := fun σ H Q => t σ H fun x H' => ∃ k, x = .bl k ∧ Q k H'
theorem pt_cmpR {op : CmpOp} {r : R2} (ho : OpR X (compareOp op) r) (ha : PE X a ta) (hb : PE X b tb) (hm : behindInMarks op b = false) : PT X (.Compare a [op] [b] pos) (tTest (tOp r ta tb)) := by
  intro pins s σ H Q I h
  refine wpAny_isTrue_Compare1 (thn (ha pins s σ H _ I h) fun v s1 ⟨x, H1, I1, r1, q1⟩ => thn (hb pins s1 σ H1 _ I1 q1) fun u s2 ⟨y, H2, I2, r2, q2⟩ =>
    thn (ho pins s2 σ H2 x y v u _ I2 r1 r2 q2) fun c s3 ⟨z, H3, I3, r3, k, e, q3⟩ => ?_) hm
  subst e
  cases r3
  exact wpAny_truthy_bool ⟨H3, I3, q3⟩
/-- a op1 b op2 c -/
def tChain (r r' : R2) (ta tb tc : TE) : TE := fun σ H Q => ta σ H fun x H1 => tb σ H1 fun y H2 => r x y H2 fun z H3 => ∃ k, z = .bl k ∧
  (if k = true then tc σ H3 fun w' H4 => r' y w' H4 Q else Q (.bl false) H3)
theorem pe_chain {op op' : CmpOp} {r r' : R2} (ho : OpR X (compareOp op) r) (ho' : OpR X (compareOp op') r') (ha : PE X a ta) (hb : PE X b tb) (hc : PE X c tc)
    (hm : lastMarks [op, op'] [b, c] = false := by with_unfolding_all rfl) : PE X (.Compare a [op, op'] [b, c] pos) (tChain r r' ta tb tc) := by
  intro pins s σ H Q I h
  refine Compare_chain (thn (ha pins s σ H _ I h) fun v s1 ⟨x, H1, I1, r1, q1⟩ => chain_link (thn (hb pins s1 σ H1 _ I1 q1) fun u s2 ⟨y, H2, I2, r2, q2⟩ =>
    thn (ho pins s2 σ H2 x y v u _ I2 r1 r2 q2) fun d s3 ⟨z, H3, I3, r3, k, e, q3⟩ => ?_)) hm
  subst e
  cases r3
  refine wpAny_truthy_bool ?_
  cases k with
  | false => exact ite_ff ⟨.bl false, H3, I3, rfl, q3⟩
  | true => exact ite_tt (chain_last (thn (hc pins s3 σ H3 _ I3 q3) fun w' s4 ⟨z', H4, I4, r4, q4⟩ => ho' pins s4 σ H4 y z' u w' Q I4 r2 r4 q4))
theorem pt_chain {op op' : CmpOp} {r r' : R2} (ho : OpR X (compareOp op) r) (ho' : OpR X (compareOp op') r') (ha : PE X a ta) (hb : PE X b tb) (hc : PE X c tc)
    (hm : lastMarks [op, op'] [b, c] = false := by with_unfolding_all rfl) : PT X (.Compare a [op, op'] [b, c] pos) (tTest (tChain r r' ta tb tc)) := by
  intro pins s σ H Q I h
  refine isTrue_chain (thn (ha pins s σ H _ I h) fun v s1 ⟨x, H1, I1, r1, q1⟩ => test_link (thn (hb pins s1 σ H1 _ I1 q1) fun u s2 ⟨y, H2, I2, r2, q2⟩ =>
    thn (ho pins s2 σ H2 x y v u _ I2 r1 r2 q2) fun d s3 ⟨z, H3, I3, r3, k, e, q3⟩ => ?_)) hm
  subst e
  cases r3
  refine wpAny_truthy_bool ?_
  cases k with
  | false =>
    obtain ⟨k', e', q'⟩ := q3
    cases e'
    exact ite_ff ⟨H3, I3, q'⟩
  | true =>
    refine ite_tt (test_last (thn (hc pins s3 σ H3 _ I3 q3) fun w' s4 ⟨z', H4, I4, r4, q4⟩ => thn (ho' pins s4 σ H4 y z' u w' _ I4 r2 r4 q4) fun d' s5 ⟨z2, H5, I5, r5, k2, e2, q5⟩ => ?_))
    subst e2
    cases r5
    exact wpAny_truthy_bool ⟨H5, I5, q5⟩

/-! ### truth -/
/-- a value's truth by the abstract heap -/
def TruV (K : PySem.W.Frag) (x : V) (H : Hp) (k : Bool) : Prop :=
  match x with
  | .non => k = false
  | .bl b => k = b
  | .int i => k = (i != 0)
  | .str y => y.length ≤ sizeLine ∧ k = ((y.length : Int) != 0)
  | .byt y => y.size ≤ sizeLine ∧ k = ((y.size : Int) != 0)
  | .ref p => (∃ xs, SqL K H p xs ∧ k = !xs.isEmpty) ∨ (∃ xs, SqT K H p xs ∧ k = !xs.isEmpty) ∨ ∃ kvs, H p = some (.dK kvs) ∧ k = !kvs.isEmpty
  | _ => False
theorem isEmpty_kv {κ : Type} {kvs : List (κ × V)} {vs : List (κ × Value)} (r : KV kvs vs) : (!vs.isEmpty) = !kvs.isEmpty := by
  cases r <;> rfl
theorem isEmpty_of {xs : List V} {its : List Value} (r : Vals xs its) : (!its.toArray.isEmpty) = !xs.isEmpty := by
  cases r <;> simp
theorem line63 : (sizeLine : Nat) < 2 ^ 63 := by rw [sizeLine_eq]; decide
theorem tru_ok : TruR X (fun x H Q => ∃ k, TruV X.K x H k ∧ Q k H) := by
  intro pins s σ H x v Q I rx h
  obtain ⟨k, e, q⟩ := h
  have hl := line63
  have hs : sizeLine = 16777216 := sizeLine_eq
  cases x with
  | non =>
    cases rx
    have e' : k = false := e
    subst e'
    exact truthy_none ⟨H, I, q⟩
  | bl b =>
    cases rx
    have e' : k = b := e
    subst e'
    exact wpAny_truthy_bool ⟨H, I, q⟩
  | int i =>
    obtain ⟨t, rfl⟩ := rx
    have e' : k = (i != 0) := e
    subst e'
    exact PySem.P.truthy_int ⟨H, I, q⟩
  | str y =>
    obtain ⟨t, rfl⟩ := rx
    obtain ⟨hy, e'⟩ : y.length ≤ sizeLine ∧ k = ((y.length : Int) != 0) := e
    subst e'
    exact PySem.P.truthy_str (by omega) ⟨H, I.tok _, q⟩
  | byt y =>
    obtain ⟨t, rfl⟩ := rx
    obtain ⟨hy, e'⟩ : y.size ≤ sizeLine ∧ k = ((y.size : Int) != 0) := e
    subst e'
    exact PySem.W.truthy_bytes (by omega) ⟨H, I.tok _, q⟩
  | ref p =>
    cases rx
    have e' : (∃ xs, SqL X.K H p xs ∧ k = !xs.isEmpty) ∨ (∃ xs, SqT X.K H p xs ∧ k = !xs.isEmpty) ∨ ∃ kvs, H p = some (.dK kvs) ∧ k = !kvs.isEmpty := e
    rcases e' with ⟨xs, hx, e'⟩ | ⟨xs, hx, e'⟩ | ⟨kvs, hx, e'⟩
    · subst e'
      obtain ⟨its, r, pl, hz⟩ := I.list hx
      have hlen := r.length
      exact wpAny_truthy_list pl.isList (by simp only [List.size_toArray]; omega) ⟨H, I.tok _, by rw [isEmpty_of r]; exact q⟩
    · subst e'
      obtain ⟨its, r, pl, hz⟩ := I.tuple hx
      have hlen := r.length
      exact truthy_tuple pl (by simp only [List.size_toArray]; omega) ⟨H, I.tok _, by rw [isEmpty_of r]; exact q⟩
    · subst e'
      obtain ⟨hz, hS, vs, r, m⟩ : kvs.length ≤ sizeLine ∧ (p == sysModules) = false ∧ ∃ vs, KV kvs vs ∧ s.heap.DictOf (mixKind X.prog X.w) p vs := I.hok p _ hx
      have hlen : kvs.length = vs.length := Paired.length r
      exact wpAny_truthy_dict hS m (by omega) ⟨H, I.tok _, by rw [isEmpty_kv r]; exact q⟩
  | _ => exact (show False from e).elim
/-- any expression whose test is its value's truth (a name, a call, a subscript, a field ..: he by fun _ => rfl) -/
theorem pt_truth (ha : PE X a ta) (he : ∀ whole, isTrue a X.env whole = (do let v ← whole; standAt a.pos; holding [v] (truthy v))) :
    PT X a (fun σ H Q => ta σ H fun x H' => ∃ k, TruV X.K x H' k ∧ Q k H') := by
  intro pins s σ H Q I h
  exact isTrue_plain (thn (ha pins s σ H _ I h) fun v s1 ⟨x, H1, I1, r1, q1⟩ => tru_ok pins s1 σ H1 x v Q I1 r1 q1) (he _)

/-! ### strs and bytes -/
theorem pe_byt {x : List UInt8} {k : Nat} : PE X (.Constant (.bytes x) k pos) (fun _ H Q => Q (.byt x.toArray) H) := fun _ _ _ H _ I h => PySem.W.Constant_bytes ⟨.byt x.toArray, H, I.tok _, ⟨_, rfl⟩, h⟩
theorem op_add_str : OpR X (binaryOp .Add) (fun x y H Q => ∃ i j, x = .str i ∧ y = .str j ∧ i.length + j.length ≤ sizeLine ∧ Q (.str (i ++ j)) H) := by
  intro pins s σ H x y v u Q I rx ry h
  obtain ⟨i, j, rfl, rfl, hz, q⟩ := h
  obtain ⟨t, rfl⟩ := rx
  obtain ⟨t', rfl⟩ := ry
  exact add_str (fun t' tk => ⟨.str (i ++ j), H, I.tok _, ⟨_, rfl⟩, q⟩) hz
theorem iop_add_str : OpR X (inplaceOp .Add) (fun x y H Q => ∃ i j, x = .str i ∧ y = .str j ∧ i.length + j.length ≤ sizeLine ∧ Q (.str (i ++ j)) H) := by
  intro pins s σ H x y v u Q I rx ry h
  obtain ⟨i, j, rfl, rfl, hz, q⟩ := h
  obtain ⟨t, rfl⟩ := rx
  obtain ⟨t', rfl⟩ := ry
  exact iadd_str (fun t' tk => ⟨.str (i ++ j), H, I.tok _, ⟨_, rfl⟩, q⟩) hz
theorem op_add_byt : OpR X (binaryOp .Add) (fun x y H Q => ∃ i j, x = .byt i ∧ y = .byt j ∧ i.size + j.size ≤ 16777216 ∧ Q (.byt (i ++ j)) H) := by
  intro pins s σ H x y v u Q I rx ry h
  obtain ⟨i, j, rfl, rfl, hz, q⟩ := h
  obtain ⟨t, rfl⟩ := rx
  obtain ⟨t', rfl⟩ := ry
  exact PySem.W.KBy.add_bytes hz (fun t' tk => ⟨.byt (i ++ j), H, I.tok _, ⟨_, rfl⟩, q⟩)

def PlainIxT (b : Expr) : Prop := ∀ o i, subscripted b false o i = operate [o, i] (getItem o i)
/-- s[i], 0 ≤ i < len -/
theorem pe_item_str (ha : PE X a ta) (hb : PE X b tb) (hs : PlainIxT b) :
    PE X (.Subscript a b pos) (tOp (fun x y H Q => ∃ z i c, x = .str z ∧ y = .int i ∧ 0 ≤ i ∧ i < 2 ^ 63 ∧ i < z.length ∧ z.cps[i.toNat]? = some c ∧ Q (.str ⟨#[c]⟩) H) ta tb) := by
  intro pins s σ H Q I h
  refine Subscript_ (binT ha hb I h fun v u s2 x y H2 I2 rx ry q => ?_)
  obtain ⟨z, i, c, rfl, rfl, h0, h63, h1, hc, q⟩ := q
  obtain ⟨t, rfl⟩ := rx
  obtain ⟨t', rfl⟩ := ry
  have e : seqIndex? i z.length = some i.toNat := PySem.StrLaws.seqIndex_nonneg h0 h1
  exact tail_any (typeIs_str s2 z t) slot_str_getitem.lookup (getItem_str (c := c) (by
    have e1 : decide (i < -(2 ^ 63 : Int)) = false := decide_eq_false (by omega)
    have e2 : decide (i ≥ 2 ^ 63) = false := decide_eq_false (by omega)
    rw [e1, e2] <;> rfl) (by rw [e]; exact hc) ⟨.str ⟨#[c]⟩, H2, I2.tok _, ⟨_, rfl⟩, q⟩) (hs _ _)
/-- b[i], 0 ≤ i < len -/
theorem pe_item_byt (ha : PE X a ta) (hb : PE X b tb) (hs : PlainIxT b) :
    PE X (.Subscript a b pos) (tOp (fun x y H Q => ∃ (z : List UInt8) (i : Int), x = .byt z.toArray ∧ y = .int i ∧ z.length ≤ sizeLine ∧ 0 ≤ i ∧ i < z.length ∧ Q (.int ((z.getD i.toNat 0).toNat : Nat)) H) ta tb) := by
  intro pins s σ H Q I h
  refine Subscript_ (binT ha hb I h fun v u s2 x y H2 I2 rx ry q => ?_)
  obtain ⟨z, i, rfl, rfl, hz, h0, h1, q⟩ := q
  obtain ⟨t, rfl⟩ := rx
  obtain ⟨t', rfl⟩ := ry
  have hl : sizeLine = 16777216 := sizeLine_eq
  exact tail_any (PySem.W.typeIs_bytes s2 z.toArray t) PySem.W.FB.slot_bytes_getitem.lookup (PySem.W.getItem_bytes (by omega) h0 h1 ⟨.int ((z.getD i.toNat 0).toNat : Nat), H2, I2.tok _, ⟨_, rfl⟩, q⟩) (hs _ _)

/-! ### scalar builtins, by CallR -/
theorem vals1 {x : V} {us : List Value} (r : Vals [x] us) : ∃ u, us = [u] ∧ RelV x u := by
  cases r with
  | cons r1 r2 => cases r2; exact ⟨_, rfl, r1⟩
theorem vals2 {x y : V} {us : List Value} (r : Vals [x, y] us) : ∃ u w', us = [u, w'] ∧ RelV x u ∧ RelV y w' := by
  cases r with
  | cons r1 r2 =>
    cases r2 with
    | cons r3 r4 => cases r4; exact ⟨_, _, rfl, r1, r3⟩
theorem call_abs : CallR X (.builtin "abs") (fun xs H Q => ∃ i, xs = [.int i] ∧ Q (.int (if i < 0 then -i else i)) H) := by
  intro pins s σ H xs us Q I r h
  obtain ⟨i, rfl, q⟩ := h
  obtain ⟨u, rfl, t, rfl⟩ := vals1 r
  exact call_abs_int fun u tk => ⟨.int (if i < 0 then -i else i), H, I.tok _, ⟨_, rfl⟩, q⟩
theorem call_max2 (hc : X.calm = true) : CallR X (.builtin "max") (fun xs H Q => ∃ i j, xs = [.int i, .int j] ∧ Q (.int (if j > i then j else i)) H) := by
  intro pins s σ H xs us Q I r h
  obtain ⟨i, j, rfl, q⟩ := h
  obtain ⟨u, w', rfl, ⟨t, rfl⟩, ⟨t', rfl⟩⟩ := vals2 r
  refine max_two_ints (I.ok.hd hc) fun h' tk k => ⟨_, H, I.kept k, ?_, q⟩
  by_cases hj : j > i
  · rw [if_pos hj, if_pos hj]; exact ⟨_, rfl⟩
  · rw [if_neg hj, if_neg hj]; exact ⟨_, rfl⟩
theorem call_min2 (hc : X.calm = true) : CallR X (.builtin "min") (fun xs H Q => ∃ i j, xs = [.int i, .int j] ∧ Q (.int (if j < i then j else i)) H) := by
  intro pins s σ H xs us Q I r h
  obtain ⟨i, j, rfl, q⟩ := h
  obtain ⟨u, w', rfl, ⟨t, rfl⟩, ⟨t', rfl⟩⟩ := vals2 r
  refine min_two_ints (I.ok.hd hc) fun h' tk k => ⟨_, H, I.kept k, ?_, q⟩
  by_cases hj : j < i
  · rw [if_pos hj, if_pos hj]; exact ⟨_, rfl⟩
  · rw [if_neg hj, if_neg hj]; exact ⟨_, rfl⟩
theorem call_int1 : CallR X (.type "int") (fun xs H Q => (∃ i, xs = [.int i] ∧ Q (.int i) H) ∨ ∃ k, xs = [.bl k] ∧ Q (.int (if k then 1 else 0)) H) := by
  intro pins s σ H xs us Q I r h
  rcases h with ⟨i, rfl, q⟩ | ⟨k, rfl, q⟩
  · obtain ⟨u, rfl, t, rfl⟩ := vals1 r
    exact call_int_int ⟨.int i, H, I, ⟨_, rfl⟩, q⟩
  · obtain ⟨u, rfl, r1⟩ := vals1 r
    cases r1
    exact call_int_bool ⟨.int (if k then 1 else 0), H, I.tok _, ⟨_, rfl⟩, q⟩
theorem call_bool1 : CallR X (.type "bool") (fun xs H Q => (∃ i, xs = [.int i] ∧ Q (.bl (i != 0)) H) ∨ ∃ k, xs = [.bl k] ∧ Q (.bl k) H) := by
  intro pins s σ H xs us Q I r h
  rcases h with ⟨i, rfl, q⟩ | ⟨k, rfl, q⟩
  · obtain ⟨u, rfl, t, rfl⟩ := vals1 r
    exact call_bool_int ⟨.bl (i != 0), H, I, rfl, q⟩
  · obtain ⟨u, rfl, r1⟩ := vals1 r
    cases r1
    exact call_bool_bool ⟨.bl k, H, I, rfl, q⟩
theorem call_str_int : CallR X (.type "str") (fun xs H Q => ∃ i, xs = [.int i] ∧ i.natAbs.log2 < 1920 ∧ Q (.str (toString i)) H) := by
  intro pins s σ H xs us Q I r h
  obtain ⟨i, rfl, hz, q⟩ := h
  obtain ⟨u, rfl, t, rfl⟩ := vals1 r
  exact PySem.P.str_of_int hz ⟨.str _, H, I.tok _, ⟨_, rfl⟩, q⟩
theorem call_ord : CallR X (.builtin "ord") (fun xs H Q => ∃ x, xs = [.str x] ∧ x.length = 1 ∧ Q (.int (x.cps.getD 0 0 : Nat)) H) := by
  intro pins s σ H xs us Q I r h
  obtain ⟨x, rfl, hz, q⟩ := h
  obtain ⟨u, rfl, t, rfl⟩ := vals1 r
  exact ord_of_one hz ⟨.int _, H, I.tok _, ⟨_, rfl⟩, q⟩
theorem call_chr : CallR X (.builtin "chr") (fun xs H Q => ∃ i, xs = [.int i] ∧ 0 ≤ i ∧ i ≤ 1114111 ∧ Q (.str ⟨#[i.toNat]⟩) H) := by
  intro pins s σ H xs us Q I r h
  obtain ⟨i, rfl, h0, h1, q⟩ := h
  obtain ⟨u, rfl, t, rfl⟩ := vals1 r
  exact chr_of_range h0 h1 ⟨.str _, H, I.tok _, ⟨_, rfl⟩, q⟩
/-- len of a str, a bytes, a list, a tuple -/
def LenV (K : PySem.W.Frag) (x : V) (H : Hp) (n : Nat) : Prop :=
  match x with
  | .str y => y.length ≤ sizeLine ∧ n = y.length
  | .byt y => y.size ≤ sizeLine ∧ n = y.size
  | .ref p => (∃ xs, SqL K H p xs ∧ n = xs.length) ∨ ∃ xs, SqT K H p xs ∧ n = xs.length
  | _ => False
theorem call_len : CallR X (.builtin "len") (fun xs H Q => ∃ x n, xs = [x] ∧ LenV X.K x H n ∧ Q (.int n) H) := by
  intro pins s σ H xs us Q I r h
  obtain ⟨x, n, rfl, e, q⟩ := h
  obtain ⟨u, rfl, rx⟩ := vals1 r
  have hl := line63
  have hs : sizeLine = 16777216 := sizeLine_eq
  cases x with
  | str y =>
    obtain ⟨t, rfl⟩ := rx
    obtain ⟨hy, e'⟩ : y.length ≤ sizeLine ∧ n = y.length := e
    subst e'
    exact len_str (by omega) ⟨.int _, H, I.tok _, ⟨_, rfl⟩, q⟩
  | byt y =>
    obtain ⟨t, rfl⟩ := rx
    obtain ⟨hy, e'⟩ : y.size ≤ sizeLine ∧ n = y.size := e
    subst e'
    exact PySem.W.len_bytes (by omega) ⟨.int _, H, I.tok _, ⟨_, rfl⟩, q⟩
  | ref p =>
    cases rx
    have e' : (∃ xs, SqL X.K H p xs ∧ n = xs.length) ∨ ∃ xs, SqT X.K H p xs ∧ n = xs.length := e
    rcases e' with ⟨xs, hx, e'⟩ | ⟨xs, hx, e'⟩
    · subst e'
      obtain ⟨its, r', pl, hz⟩ := I.list hx
      have hlen := r'.length
      exact Calls.call_len_list pl.isList (by simp only [List.size_toArray]; omega) ⟨.int xs.length, H, I.tok _, ⟨_, by simp only [List.size_toArray]; rw [hlen]⟩, q⟩
    · subst e'
      obtain ⟨its, r', pl, hz⟩ := I.tuple hx
      have hlen := r'.length
      exact len_tuple pl (by simp only [List.size_toArray]; omega) ⟨.int xs.length, H, I.tok _, ⟨_, by simp only [List.size_toArray]; rw [hlen]⟩, q⟩
  | _ => exact (show False from e).elim
/-- divmod: a new tuple -/
theorem call_divmod : CallR X (.builtin "divmod") (fun xs H Q => ∃ i j, xs = [.int i, .int j] ∧ CDiv i j ∧ ∀ p, H p = none → Q (.ref p) (upd H p (.tup [.int (i / j), .int (i % j)]))) := by
  intro pins s σ H xs us Q I r h
  obtain ⟨i, j, rfl, ⟨h1, h2⟩, q⟩ := h
  obtain ⟨u, w', rfl, ⟨t, rfl⟩, ⟨t', rfl⟩⟩ := vals2 r
  refine divmod_int (by omega) ?_ (.inl (PyProof.noPylong_small (by omega)))
  rw [Int.fdiv_eq_ediv_of_nonneg i (by omega), Int.fmod_eq_emod_of_nonneg i (by omega)]
  have hn : H s.heap.objs.size = none := I.hok.fresh (Nat.le_refl _)
  refine ⟨.ref s.heap.objs.size, _, ?_, rfl, q _ hn⟩
  refine I.laid (fun b o e => Heap.get?_push_of_some _ e) (Nat.le_refl _) ⟨by simp only [List.length_cons, List.length_nil]; rw [sizeLine_eq]; decide, [.int (i / j) s.toks, .int (i % j) (s.toks + 1)], .cons ⟨_, rfl⟩ (.cons ⟨_, rfl⟩ .nil), ?_⟩
  exact ⟨_, Heap.get?_push_size s.heap rfl, rfl, 0, rfl⟩
end
end L2

namespace L2
open PySem PySem.Spec PyProof.Rows

/-! ### an instance, its attributes a map -/
structure ObjM (h : Heap) (x dx C : Addr) (mA : Str → Option Value) : Prop where
  obj : h.get? x = some (PySem.W.instObj C dx)
  ns : h.Ns1 dx mA
  ne : dx ≠ x

theorem lookIn_ns {h : Heap} {dx : Addr} {mA : Str → Option Value} (n : h.Ns1 dx mA) : ∃ od, h.get? dx = some od ∧ ∀ name, PySem.W.lookIn name od = some (mA name) := by
  obtain ⟨o, es, ep, ho, hd, hk, _, hm⟩ := n
  refine ⟨o, ho, fun name => ?_⟩
  have e := hm name
  unfold nsFind findBy at e
  rw [← Array.find?_toList] at e
  unfold PySem.W.lookIn
  rw [hd]
  dsimp only
  split
  · rename_i y q
    rw [q] at e
    exact congrArg some e
  · rename_i q
    rw [q] at e
    have a : es.toList.any (·.refKey) = false := by
      rw [List.any_eq_false]
      intro y hy
      obtain ⟨z, t, hkey⟩ := hk y (Array.mem_toList_iff.mp hy)
      simp [DictEntry.refKey, hkey]
    have a' : ¬ es.toList.any (·.refKey) = true := by rw [a]; exact Bool.false_ne_true
    rw [if_neg a']
    exact congrArg some e

theorem ObjM.look {h : Heap} {x dx C : Addr} {mA : Str → Option Value} (I : ObjM h x dx C mA) : ∃ od, PySem.W.InstAt h x (PySem.W.instObj C dx) C (some od) ∧ ∀ name, PySem.W.lookIn name od = some (mA name) :=
  let ⟨od, ho, hl⟩ := lookIn_ns I.ns
  ⟨od, ⟨I.obj, rfl, rfl, ho⟩, hl⟩

section
variable {prog : Program} {w : World} {A : Around} {E : Value → Shared → Prop} {s : Shared} {K : PySem.W.Frag} {x dx C f : Addr} {mA : Str → Option Value} {name : Str} {v : Value}

theorem get_map {expr : Bool} {Q : Value → Shared → Prop} (X : K.In s.heap) (I : ObjM s.heap x dx C mA) (hg : PySem.W.plainGet K C name = true) (hh : PySem.W.hasDictIn K C = true)
    (ha : PySem.W.findIn K (.ref C) name = some none) (hv : mA name = some v) (hv' : PySem.W.handedIn v = true) (h : Q v { s with toks := s.toks + 1 }) :
    wpAny (model prog w) A (getAttr (.ref x) name expr) Q E s := by
  obtain ⟨od, J, hl⟩ := I.look
  exact PySem.W.get_value X J (PySem.W.plainGet_of hg).1 (PySem.W.findObj_own hh ha rfl (by rw [hl, hv])) hv' h

theorem get_const {expr : Bool} {a : Value} {Q : Value → Shared → Prop} (X : K.In s.heap) (I : ObjM s.heap x dx C mA) (hg : PySem.W.plainGet K C name = true) (hh : PySem.W.hasDictIn K C = true)
    (ha : PySem.W.findIn K (.ref C) name = some (some a)) (hn : PySem.W.specialIn K a "__get__" = some none) (hc : PySem.W.copiedNames.contains name = false) (hv : mA name = none) (hv' : PySem.W.handedIn a = true)
    (h : Q a { s with toks := s.toks + 1 }) : wpAny (model prog w) A (getAttr (.ref x) name expr) Q E s := by
  obtain ⟨od, J, hl⟩ := I.look
  exact PySem.W.get_value X J (PySem.W.plainGet_of hg).1 (PySem.W.findObj_cls hh ha hn hv' hc (by rw [hl, hv])) hv' h

theorem get_meth {pl : Sem Bool} {Q : Value × List Value → Shared → Prop} (X : K.In s.heap) (I : ObjM s.heap x dx C mA) (hg : PySem.W.plainGet K C name = true)
    (hf : PySem.W.findIn K (.ref C) name = some (some (.ref f))) (ht : PySem.W.isFn K (.ref f) = true) (hv : mA name = none) (h : Q (.ref f, [.ref x]) s) :
    wpAny (model prog w) A (getMethod (.ref x) name pl) Q E s := by
  obtain ⟨od, J, hl⟩ := I.look
  exact PySem.W.method_fn X J (PySem.W.plainGet_of hg).1 (PySem.W.plainGet_of hg).2 hf (beq_iff_eq.mp ht) (by show (PySem.W.lookIn name od).map (·.isSome) = some false; rw [hl, hv]; rfl) h

theorem set_map {ns : List Str} {Q : Unit → Shared → Prop} (X : K.In s.heap) (I : ObjM s.heap x dx C mA)
    (hs : PySem.W.findIn K (.ref C) "__setattr__" = some (some (.builtin "object.__setattr__"))) (hp : PySem.W.plainOver K C = true) (ht : PySem.W.takerIn K C name = some none) (hh : PySem.W.hasDictIn K C = true)
    (hw : PySem.Within mA ns) (hsz : ns.length ≤ sizeLine)
    (h : ∀ h', ObjM h' x dx C (fun y => if y = name then some v else mA y) → Heap.SameBut dx s.heap h' → Q () { s with heap := h', toks := s.toks + 2 }) :
    wpAny (model prog w) A (setAttr (.ref x) name v) Q E s := by
  obtain ⟨od, J, hl⟩ := I.look
  refine PySem.W.set_plain X J hs (PySem.W.osa_open (s := { s with toks := s.toks + 1 }) (r := none) X J hp ht fun b => ?_)
  obtain ⟨cd, hc, hd'⟩ := PySem.W.any_some hh
  have hx : s.heap.get? x = some ⟨.ref C, some dx, .plain, #[]⟩ := I.obj
  refine wpAny_bind (wpAny_pure (wpAny_bind (wpAny_bind (wpAny_loadPart hx (wpAny_bind (PySem.W.Looks.here (s := { s with toks := s.toks + 1 }) (PySem.W.looks_clsIn X hc) ?_))))))
  rw [hd']
  refine wpAny_pure (a := some dx) (wpAny_bind (wpAny_pure (wpAny_bind ?_)))
  refine wpAny_nsSet1 (s := { s with toks := s.toks + 1 }) I.ns fun h' hn2 hs2 => ?_
  obtain ⟨oD, esD, epD, hoD, hdD, hcD⟩ := hn2.count (PySem.Within.cons name v hw)
  refine wpAny_bind (wpAny_lookBehind hoD (by rw [hdD]; exact pastItsLine_dict (Nat.le_trans hcD (by rw [List.length_cons]; omega))) ?_)
  exact wpAny_pure (h _ ⟨(hs2.2 _ (Ne.symm I.ne)).trans I.obj, hn2, I.ne⟩ hs2)

/-- C(..): the dict at the heap's end, the instance behind it; then its __init__ -/
theorem make_map {R : Result → Shared → Prop} {vs : List Value} {kw : List (Str × Value)} (X : K.In s.heap) (hm : PySem.W.makesIn K C = true)
    (hi : PySem.W.findIn K (.ref C) "__init__" = some (some (.ref f))) (hf : PySem.W.typeIn K (.ref f) = some (.type "function"))
    (h : codeAny (model prog w) (A.under (.builtin "type.__call__" ⟨.ref C :: vs, kw⟩)) (.call (.ref f) ⟨.ref (s.heap.objs.size + 1) :: vs, kw⟩) (PySem.W.InitBack (s.heap.objs.size + 1) R)
      { s with heap := (s.heap.push PySem.W.emptyDict).push (PySem.W.instObj C s.heap.objs.size) }) :
    codeAny (model prog w) A (.call (.ref C) ⟨vs, kw⟩) R s := by
  obtain ⟨hh, g, d, t, os⟩ := s
  exact PySem.W.make_core (PySem.W.makes_of X hm) (PySem.W.looks_findIn X hi) (fun self => PySem.W.bind_fn X self hf) (.inl rfl) h
/-- C() where there is no __init__ but object's -/
theorem make_map0 {R : Result → Shared → Prop} (X : K.In s.heap) (hm : PySem.W.makesIn K C = true)
    (hi : PySem.W.findIn K (.ref C) "__init__" = some (some (.builtin "object.__init__")))
    (hb : ∀ self, PySem.W.Looks (model prog w) s.heap (bindSpecial (.builtin "object.__init__") self) (.builtin "object.__init__", [self]))
    (h : codeAny (model prog w) (A.under (.builtin "type.__call__" ⟨[.ref C], []⟩)) (.call (.builtin "object.__init__") ⟨[.ref (s.heap.objs.size + 1)], []⟩) (PySem.W.InitBack (s.heap.objs.size + 1) R)
      { s with heap := (s.heap.push PySem.W.emptyDict).push (PySem.W.instObj C s.heap.objs.size) }) :
    codeAny (model prog w) A (.call (.ref C) ⟨[], []⟩) R s := by
  obtain ⟨hh, g, d, t, os⟩ := s
  exact PySem.W.make_core (PySem.W.makes_of X hm) (PySem.W.looks_findIn X hi) hb (.inr ⟨rfl, rfl⟩) h
end

/-! ### the attributes as a list of pairs -/
def putF (f : Str) (v : V) : List (Str × V) → List (Str × V)
  | [] => [(f, v)]
  | (g, x) :: r => if g = f then (g, v) :: r else (g, x) :: putF f v r
theorem lookup_putF (f g : Str) (v : V) : ∀ fs : List (Str × V), (putF f v fs).lookup g = if g = f then some v else fs.lookup g
  | [] => by
    show List.lookup g [(f, v)] = _
    by_cases h : g = f
    · have hb : (g == f) = true := beq_iff_eq.mpr h
      simp only [List.lookup, hb, if_pos h]
    · have hb : (g == f) = false := beq_eq_false_iff_ne.mpr h
      simp only [List.lookup, hb, if_neg h]
  | (k, x) :: r => by
    have ih := lookup_putF f g v r
    rw [show putF f v ((k, x) :: r) = (if k = f then (k, v) :: r else (k, x) :: putF f v r) from rfl]
    by_cases hk : k = f
    · rw [if_pos hk]
      by_cases h : g = k
      · have hb : (g == k) = true := beq_iff_eq.mpr h
        simp only [List.lookup, hb, if_pos (h.trans hk)]
      · have hb : (g == k) = false := beq_eq_false_iff_ne.mpr h
        simp only [List.lookup, hb, if_neg (fun e : g = f => h (e.trans hk.symm))]
    · rw [if_neg hk]
      by_cases h : g = k
      · have hb : (g == k) = true := beq_iff_eq.mpr h
        simp only [List.lookup, hb, if_neg (fun e : g = f => hk (h.symm.trans e))]
      · have hb : (g == k) = false := beq_eq_false_iff_ne.mpr h
        simp only [List.lookup, hb]
        exact ih
theorem keys_putF (f : Str) (v : V) : ∀ fs : List (Str × V), f ∈ (putF f v fs).map (·.1) ∧ ∀ g, g ∈ fs.map (·.1) → g ∈ (putF f v fs).map (·.1)
  | [] => ⟨by simp [putF], fun g h => by simp at h⟩
  | (k, x) :: r => by
    obtain ⟨i1, i2⟩ := keys_putF f v r
    rw [show putF f v ((k, x) :: r) = (if k = f then (k, v) :: r else (k, x) :: putF f v r) from rfl]
    by_cases hk : k = f
    · rw [if_pos hk]
      subst hk
      exact ⟨by simp, fun g h => by simpa using h⟩
    · rw [if_neg hk]
      refine ⟨?_, fun g h => ?_⟩
      · rw [List.map_cons]
        exact List.mem_cons_of_mem _ i1
      · rw [List.map_cons] at h ⊢
        rcases List.mem_cons.mp h with e | e
        · exact List.mem_cons.mpr (.inl e)
        · exact List.mem_cons_of_mem _ (i2 g e)
theorem length_putF (f : Str) (v : V) : ∀ fs : List (Str × V), (putF f v fs).length ≤ fs.length + 1
  | [] => by simp [putF]
  | (k, x) :: r => by
    have ih := length_putF f v r
    rw [show putF f v ((k, x) :: r) = (if k = f then (k, v) :: r else (k, x) :: putF f v r) from rfl]
    by_cases hk : k = f
    · rw [if_pos hk, List.length_cons, List.length_cons]; omega
    · rw [if_neg hk, List.length_cons, List.length_cons]; omega

theorem RelO.some_of {v : V} {o : Option Value} (r : RelO (some v) o) : ∃ u, o = some u ∧ RelV v u := by
  cases o with
  | none => exact (show False from r).elim
  | some u => exact ⟨u, rfl, r⟩
theorem RelO.none_of {o : Option Value} (r : RelO none o) : o = none := by
  cases o with
  | none => rfl
  | some u => exact (show False from r).elim
theorem handed_of {v : V} {u : Value} (r : RelV v u) : PySem.W.handedIn u = true := by
  cases v with
  | non => cases (show u = Value.none from r); rfl
  | bl b => cases (show u = Value.bool b from r); rfl
  | int i => obtain ⟨t, e⟩ := (show ∃ t, u = Value.int i t from r); cases e; rfl
  | str x => obtain ⟨t, e⟩ := (show ∃ t, u = Value.str x t from r); cases e; rfl
  | byt b => obtain ⟨t, e⟩ := (show ∃ t, u = Value.bytes b t from r); cases e; rfl
  | flt b => obtain ⟨t, e⟩ := (show ∃ t, u = Value.float b t from r); cases e; rfl
  | ref a => cases (show u = Value.ref a from r); rfl
  | ty n => cases (show u = Value.type n from r); rfl

section
variable {P : Program} {w : World} {H H' : Hp} {h h' : Heap} {a C dx : Addr} {fs fs' : List (Str × V)}
theorem ins_get (hok : HOk P w H h) (e : H a = some (.ins C dx fs)) : ∃ mA, ObjM h a dx C mA ∧ (∀ f, RelO (fs.lookup f) (mA f)) ∧ PySem.Within mA (fs.map (·.1)) ∧ fs.length ≤ 1000 ∧ H dx = some (.own a) := by
  obtain ⟨d, z, ne, ob, mA, n, r, q⟩ := (show ObjOk P w H h a (.ins C dx fs) from hok a _ e)
  exact ⟨mA, ⟨ob, n, ne⟩, r, q, z, d⟩
end

/-! ### what of the text a class must have -/
structure Cls (K : PySem.W.Frag) (C : Addr) : Prop where
  pg : PySem.W.plainGet K C Str.empty = true
  hd : PySem.W.hasDictIn K C = true
  po : PySem.W.plainOver K C = true
  sa : PySem.W.findIn K (.ref C) "__setattr__" = some (some (.builtin "object.__setattr__"))
theorem Cls.get {K : PySem.W.Frag} {C : Addr} (c : Cls K C) (f : Str) : PySem.W.plainGet K C f = true := c.pg
/-- no class of it has the name -/
def NoAttr (K : PySem.W.Frag) (C : Addr) (f : Str) : Prop := PySem.W.findIn K (.ref C) f = some none
theorem NoAttr.taker {K : PySem.W.Frag} {C : Addr} {f : Str} (n : NoAttr K C f) : PySem.W.takerIn K C f = some none := by
  unfold PySem.W.takerIn
  rw [show PySem.W.findIn K (.ref C) f = some none from n]
  rfl
/-- a constant of the class -/
structure Con (K : PySem.W.Frag) (C : Addr) (f : Str) (v : V) (u : Value) : Prop where
  at_ : PySem.W.findIn K (.ref C) f = some (some u)
  rel : RelV v u
  get : PySem.W.specialIn K u "__get__" = some none
  cp : PySem.W.copiedNames.contains f = false
/-- a method: a plain def of the class or of one above it -/
structure Meth (K : PySem.W.Frag) (C : Addr) (m : Str) (f : Addr) : Prop where
  at_ : PySem.W.findIn K (.ref C) m = some (some (.ref f))
  fn : PySem.W.isFn K (.ref f) = true
  kp : PySem.W.keepIn K (.ref f) = true

section
variable {X : Cx} {pins : List (Addr × Obj)} {σ : St} {H : Hp} {s : Shared} {a C dx : Addr} {fs : List (Str × V)} {f : Str} {v : V} {A : Around} {E : Value → Shared → Prop}

theorem getattr_ok {b : Bool} {Q : Value → Shared → Prop} (I : Inv X pins σ H s) (e : H a = some (.ins C dx fs)) (c : Cls X.K C) (n : NoAttr X.K C f) (l : fs.lookup f = some v)
    (h : ∀ u s', Inv X pins σ H s' → RelV v u → Q u s') : wpAny (model X.prog X.w) A (getAttr (.ref a) f b) Q E s := by
  obtain ⟨mA, O, r, _, _, _⟩ := ins_get I.hok e
  obtain ⟨u, hu, ru⟩ := RelO.some_of (v := v) (o := mA f) (by rw [← l]; exact r f)
  exact get_map I.kIn O (c.get f) c.hd n hu (handed_of ru) (h u _ (I.tok _) ru)

theorem getcon_ok {b : Bool} {u : Value} {Q : Value → Shared → Prop} (I : Inv X pins σ H s) (e : H a = some (.ins C dx fs)) (c : Cls X.K C) (k : Con X.K C f v u) (l : fs.lookup f = none)
    (h : ∀ s', Inv X pins σ H s' → Q u s') : wpAny (model X.prog X.w) A (getAttr (.ref a) f b) Q E s := by
  obtain ⟨mA, O, r, _, _, _⟩ := ins_get I.hok e
  have hn : mA f = none := RelO.none_of (by rw [← l]; exact r f)
  exact get_const I.kIn O (c.get f) c.hd k.at_ k.get k.cp hn (handed_of k.rel) (h _ (I.tok _))

theorem getmeth_ok {m : Str} {g : Addr} {pl : Sem Bool} {Q : Value × List Value → Shared → Prop} (I : Inv X pins σ H s) (e : H a = some (.ins C dx fs)) (c : Cls X.K C) (k : Meth X.K C m g) (l : fs.lookup m = none)
    (h : Q (.ref g, [.ref a]) s) : wpAny (model X.prog X.w) A (getMethod (.ref a) m pl) Q E s := by
  obtain ⟨mA, O, r, _, _, _⟩ := ins_get I.hok e
  have hn : mA m = none := RelO.none_of (by rw [← l]; exact r m)
  exact get_meth I.kIn O (c.get m) k.at_ k.fn hn h

theorem setattr_ok {y : V} {u : Value} {Q : Unit → Shared → Prop} (I : Inv X pins σ H s) (e : H a = some (.ins C dx fs)) (c : Cls X.K C) (n : NoAttr X.K C f) (hl : fs.length < 1000) (ry : RelV y u)
    (h : ∀ s', Inv X pins σ (upd H a (.ins C dx (putF f y fs))) s' → Q () s') : wpAny (model X.prog X.w) A (setAttr (.ref a) f u) Q E s := by
  obtain ⟨mA, O, r, wi, _, ho⟩ := ins_get I.hok e
  have hz : (fs.map (·.1)).length ≤ sizeLine := by rw [List.length_map, sizeLine_eq]; omega
  refine set_map I.kIn O c.sa c.po n.taker c.hd wi hz fun h' O' sb => h _ ?_
  have hd : ∃ o, h'.get? dx = some o := let ⟨o, _, _, e', _⟩ := O'.ns; ⟨o, e'⟩
  refine I.write (x := a) (e := dx) (by rw [e]; exact True.intro) (.inr ho) (fun b q hb z => (sb.2 b hb).trans z) hd ?_
  refine ⟨by rw [upd_ne O.ne]; exact ho, ?_, O.ne, O'.obj, _, O'.ns, fun g => ?_, fun g hg => ?_⟩
  · have := length_putF f y fs; omega
  · show RelO ((putF f y fs).lookup g) (if g = f then some u else mA g)
    rw [lookup_putF]
    by_cases q : g = f
    · rw [if_pos q, if_pos q]; exact ry
    · rw [if_neg q, if_neg q]; exact r g
  · by_cases q : g = f
    · rw [q]; exact (keys_putF f y fs).1
    · refine (keys_putF f y fs).2 g (wi g fun z => hg ?_)
      show (if g = f then some u else mA g) = none
      rw [if_neg q]; exact z

/-- a new instance, tracked, without attributes -/
theorem Inv.made (I : Inv X pins σ H s) : Inv X pins σ (upd (upd H s.heap.objs.size (.own (s.heap.objs.size + 1))) (s.heap.objs.size + 1) (.ins C s.heap.objs.size []))
    { s with heap := (s.heap.push PySem.W.emptyDict).push (PySem.W.instObj C s.heap.objs.size) } := by
  have e1 : (s.heap.push PySem.W.emptyDict).get? s.heap.objs.size = some PySem.W.emptyDict := Heap.get?_push_size s.heap rfl
  have e2 : ((s.heap.push PySem.W.emptyDict).push (PySem.W.instObj C s.heap.objs.size)).get? (s.heap.objs.size + 1) = some (PySem.W.instObj C s.heap.objs.size) := by
    have := Heap.get?_push_size (s.heap.push PySem.W.emptyDict) (o := PySem.W.instObj C s.heap.objs.size) rfl
    rwa [Heap.size_push] at this
  have e3 : (s.heap.push PySem.W.emptyDict).Ns s.heap.objs.size (fun _ => none) := ⟨PySem.W.emptyDict, #[], _, e1, rfl, (fun e he => absurd he (by simp)), fun _ => rfl⟩
  have I1 := I.laid (a := s.heap.objs.size) (o := .own (s.heap.objs.size + 1)) (h' := s.heap.push PySem.W.emptyDict) (t' := s.toks) (fun b u q => Heap.get?_push_of_some _ q) (Nat.le_refl _) ⟨_, e1⟩
  refine I1.laid (a := s.heap.objs.size + 1) (o := .ins C s.heap.objs.size []) (t' := s.toks) (fun b u q => Heap.get?_push_of_some _ q) (Nat.le_of_eq (Heap.size_push _ _)) ?_
  have ne : s.heap.objs.size ≠ s.heap.objs.size + 1 := Nat.ne_of_lt (Nat.lt_succ_self _)
  refine ⟨by rw [upd_ne ne, upd_same], Nat.zero_le _, ne, e2, fun _ => none, (Heap.Ns1.of_empty e3).at fun o q => Heap.get?_push_of_some _ q, fun _ => True.intro, fun y hy => absurd rfl hy⟩

/-- e.f where nothing but the object is asked: through attributeBase (super) and the last hold -/
theorem attr_of {prog : Program} {w : World} {env : Env} {e : Expr} {f : Str} {pos : Pos} {s : Shared} {Q : Value → Shared → Prop} (hb : attributeBase e f env (eval e env) = eval e env)
    (h : wpAny (model prog w) A (eval e env) (fun o s₁ => wpAny (model prog w) A (getAttr o f true) Q E s₁) E s) : wpAny (model prog w) A (eval (.Attribute e f pos) env) Q E s :=
  Attribute_any_ h (by rw [arm_eval_Attribute, hb])
end

/-! ### readings and rules -/
/-- e.f, an attribute of the instance -/
def tFld (K : PySem.W.Frag) (ta : TE) (f : Str) : TE := fun σ H Q => ta σ H fun x H1 => ∃ a C dx fs v, x = .ref a ∧ H1 a = some (.ins C dx fs) ∧ Cls K C ∧ NoAttr K C f ∧ fs.lookup f = some v ∧ Q v H1
/-- e.f, a constant of the class -/
def tCon (K : PySem.W.Frag) (ta : TE) (f : Str) : TE := fun σ H Q => ta σ H fun x H1 => ∃ a C dx fs v u, x = .ref a ∧ H1 a = some (.ins C dx fs) ∧ Cls K C ∧ Con K C f v u ∧ fs.lookup f = none ∧ Q v H1
/-- e.f = value -/
def sFld (K : PySem.W.Frag) (ta tv : TE) (f : Str) : TS := fun D σ H => tv σ H fun y H1 => ta σ H1 fun x H2 => ∃ a C dx fs, x = .ref a ∧ H2 a = some (.ins C dx fs) ∧ Cls K C ∧ NoAttr K C f ∧ fs.length < 1000 ∧
  D.nx σ (upd H2 a (.ins C dx (putF f y fs)))
/-- an augmented operator on two values -/
def InOp (X : Cx) (op : Operator) (rd : V → V → Hp → VK → Prop) : Prop :=
  ∀ (pins : List (Addr × Obj)) (s : Shared) (σ : St) (H : Hp) (x y : V) (u v : Value) (Q : VK), Inv X pins σ H s → RelV x u → RelV y v → rd x y H Q → wpAny (model X.prog X.w) X.A (inplaceOp op u v) (EP X pins σ Q) X.xe s
/-- e.f op= value -/
def sFldAug (K : PySem.W.Frag) (ta tv : TE) (rd : V → V → Hp → VK → Prop) (f : Str) : TS := fun D σ H => ta σ H fun x H1 => ∃ a C dx fs v, x = .ref a ∧ H1 a = some (.ins C dx fs) ∧ Cls K C ∧ NoAttr K C f ∧ fs.lookup f = some v ∧
  tv σ H1 fun y H2 => rd v y H2 fun z H3 => ∃ dx' fs', H3 a = some (.ins C dx' fs') ∧ fs'.length < 1000 ∧ D.nx σ (upd H3 a (.ins C dx' (putF f z fs')))

section
variable {X : Cx} {o e value : Expr} {f : Str} {pos pos' tpos : Pos} {ta tv : TE}
theorem pe_fld (he : PE X e ta) (hb : attributeBase e f X.env (eval e X.env) = eval e X.env) : PE X (.Attribute e f pos) (tFld X.K ta f) := by
  intro pins s σ H Q I h
  refine attr_of hb (thn (he pins s σ H _ I h) fun u s1 ⟨x, H1, I1, rx, a, C, dx, fs, v, ex, ea, c, n, l, q⟩ => ?_)
  subst ex
  obtain rfl : u = Value.ref a := rx
  exact getattr_ok I1 ea c n l fun u' s2 I2 ru => ⟨v, H1, I2, ru, q⟩
theorem pe_con (he : PE X e ta) (hb : attributeBase e f X.env (eval e X.env) = eval e X.env) : PE X (.Attribute e f pos) (tCon X.K ta f) := by
  intro pins s σ H Q I h
  refine attr_of hb (thn (he pins s σ H _ I h) fun u s1 ⟨x, H1, I1, rx, a, C, dx, fs, v, u0, ex, ea, c, k, l, q⟩ => ?_)
  subst ex
  obtain rfl : u = Value.ref a := rx
  exact getcon_ok I1 ea c k l fun s2 I2 => ⟨v, H1, I2, k.rel, q⟩
theorem ps_fld (ha : PE X o ta) (hv : PE X value tv) (hs : swapsWith value (some (.Attribute o f pos')) pos.line X.env = pure false) : PS X (.Assign [.Attribute o f pos'] value pos) (sFld X.K ta tv f) := by
  intro pins s σ H D I h
  refine plainObj_wpAny_Assign_Attribute (thn (hv pins s σ H _ I h) fun u s1 ⟨y, H1, I1, ry, q⟩ => thn (ha pins s1 σ H1 _ I1 q) fun ov s2 ⟨x, H2, I2, rx, a, C, dx, fs, ex, ea, c, n, l, q2⟩ => ?_) hs
  subst ex
  obtain rfl : ov = Value.ref a := rx
  exact setattr_ok I2 ea c n l ry fun s3 I3 => ⟨σ, _, I3, q2⟩
theorem ps_fldaug {op : Operator} {rd : V → V → Hp → VK → Prop} (ha : PE X o ta) (hv : PE X value tv) (hop : InOp X op rd) : PS X (.AugAssign (.Attribute o f tpos) op value pos) (sFldAug X.K ta tv rd f) := by
  intro pins s σ H D I h
  refine wpAny_AugAssign_AttributeAny (thn (ha pins s σ H _ I h) fun ov s1 ⟨x, H1, I1, rx, a, C, dx, fs, v, ex, ea, c, n, l, q⟩ => ?_)
  subst ex
  obtain rfl : ov = Value.ref a := rx
  refine getattr_ok I1 ea c n l fun u s2 I2 ru => thn (hv pins s2 σ H1 _ I2 q) fun w3 s3 ⟨y, H2, I3, ry, q3⟩ => thn (hop pins s3 σ H2 v y u w3 _ I3 ru ry q3) fun w4 s4 ⟨z, H3, I4, rz, dx', fs', ea', l', q4⟩ => ?_
  exact setattr_ok I4 ea' c n l' rz fun s5 I5 => ⟨σ, _, I5, q4⟩
def rAdd : V → V → Hp → VK → Prop := fun x y H Q => ∃ i j, x = .int i ∧ y = .int j ∧ Q (.int (i + j)) H
def rSub : V → V → Hp → VK → Prop := fun x y H Q => ∃ i j, x = .int i ∧ y = .int j ∧ Q (.int (i - j)) H
theorem in_add : InOp X .Add rAdd := by
  rintro pins s σ H x y u v Q I rx ry ⟨i, j, rfl, rfl, q⟩
  obtain ⟨t, rfl⟩ := (show ∃ t, u = Value.int i t from rx)
  obtain ⟨t', rfl⟩ := (show ∃ t', v = Value.int j t' from ry)
  exact PyProof.Rows.iadd_int ⟨.int (i + j), H, I.tok _, ⟨_, rfl⟩, q⟩
theorem in_sub : InOp X .Sub rSub := by
  rintro pins s σ H x y u v Q I rx ry ⟨i, j, rfl, rfl, q⟩
  obtain ⟨t, rfl⟩ := (show ∃ t, u = Value.int i t from rx)
  obtain ⟨t', rfl⟩ := (show ∃ t', v = Value.int j t' from ry)
  exact PyProof.Rows.isub_int ⟨.int (i - j), H, I.tok _, ⟨_, rfl⟩, q⟩

/-- what is between an instance and its method: the tree of a method call -/
theorem methcall_of {pl : Sem Bool} {m : Str} {apos : Pos} {args : List Expr} {pins : List (Addr × Obj)} {s : Shared} {σ : St} {H : Hp} {Q : Value → Shared → Prop} {te : TE} (he : PE X e te) (I : Inv X pins σ H s)
    (h : te σ H fun x H1 => ∃ a C dx fs g, x = .ref a ∧ H1 a = some (.ins C dx fs) ∧ Cls X.K C ∧ Meth X.K C m g ∧ fs.lookup m = none ∧
      ∀ s1, Inv X pins σ H1 s1 → wpAny (model X.prog X.w) X.A (callWith pos (.ref g) [.ref a] (backTo pos (starEach args X.env)) (backToKw pos (keywordEach [] X.env))) Q X.xe s1)
    (ht : eval (.Call (.Attribute e m apos) args [] pos) X.env = (do
      let ov ← eval e X.env
      standAt apos.atName
      let (f, first) ← holding [ov] (getMethod ov m pl)
      callWith pos f first (backTo pos (starEach args X.env)) (backToKw pos (keywordEach [] X.env)))) :
    wpAny (model X.prog X.w) X.A (eval (.Call (.Attribute e m apos) args [] pos) X.env) Q X.xe s := by
  refine PySem.W.methodCall_KW (pl := pl) (thn (he pins s σ H _ I h) fun u s1 ⟨x, H1, I1, rx, a, C, dx, fs, g, ex, ea, c, k, l, q⟩ => ?_) ht
  subst ex
  obtain rfl : u = Value.ref a := rx
  exact getmeth_ok I1 ea c k l (q s1 I1)
end

/-! ### isinstance -/
section
variable {X : Cx} {pins : List (Addr × Obj)} {σ : St} {H : Hp} {s : Shared} {A : Around} {E : Value → Shared → Prop} {Q : Value → Shared → Prop} {c : Value} {b : Bool}
/-- the type of a value, as the fragment's deciders take it; for an instance its class -/
inductive TyOf (K : PySem.W.Frag) (H : Hp) : V → Value → Prop where
  | non : TyOf K H .non (.type "NoneType")
  | bl (x : Bool) : TyOf K H (.bl x) (.type "bool")
  | int (i : Int) : TyOf K H (.int i) (.type "int")
  | str (x : Str) : TyOf K H (.str x) (.type "str")
  | flt (x : UInt64) : TyOf K H (.flt x) (.type "float")
  | lst {a : Addr} {xs : List V} (e : H a = some (.lst xs)) : TyOf K H (.ref a) (.type "list")
  | frz {a : Addr} {o : Obj} {xs : List V} (e : H a = some (.frz o (.lst xs))) : TyOf K H (.ref a) (.type "list")
  | tup {a : Addr} {xs : List V} (e : H a = some (.tup xs)) : TyOf K H (.ref a) (.type "tuple")
  | dK {a : Addr} {kvs : List (Key × V)} (e : H a = some (.dK kvs)) : TyOf K H (.ref a) (.type "dict")
  | dT {a : Addr} {kvs : List (List Key × V)} (e : H a = some (.dT kvs)) : TyOf K H (.ref a) (.type "dict")
  | ins {a C dx : Addr} {fs : List (Str × V)} (e : H a = some (.ins C dx fs)) (cl : Cls K C) (ha : PySem.W.findIn K (.ref C) "__class__" = some (some (.builtin "object.__class__")))
      (hn : PySem.W.specialIn K (.builtin "object.__class__") "__get__" = some (some (.builtin "getset_descriptor.__get__"))) (htk : PySem.W.takesIn K (.builtin "object.__class__") = some true)
      (hm : PySem.W.mroIn K C (.type "object") = some true) : TyOf K H (.ref a) (.ref C)
/-- isinstance(x, c) for one class c, a built-in or an own one: kitOne's answer -/
theorem isinst_ok {x : V} {u t : Value} (I : Inv X pins σ H s) (rx : RelV x u) (ty : TyOf X.K H x t) (e : PySem.W.kitOne X.K t c = some b) (h : ∀ tk, Q (.bool b) { s with toks := tk }) :
    wpAny (model X.prog X.w) A (call (.builtin "isinstance") [u, c]) Q E s := by
  cases ty with
  | non => cases (show u = Value.none from rx); exact PySem.W.kia_one PySem.W.kitx_none I.kIn True.intro e (fun z => nomatch z) h
  | bl y => cases (show u = Value.bool y from rx); exact PySem.W.kia_one PySem.W.kitx_bool I.kIn True.intro e (fun z => nomatch z) h
  | int i => obtain ⟨t, q⟩ := (show ∃ t, u = Value.int i t from rx); cases q; exact PySem.W.kia_one PySem.W.kitx_int I.kIn True.intro e (fun z => nomatch z) h
  | str y => obtain ⟨t, q⟩ := (show ∃ t, u = Value.str y t from rx); cases q; exact PySem.W.kia_one PySem.W.kitx_str I.kIn True.intro e (fun z => nomatch z) h
  | flt y => obtain ⟨t, q⟩ := (show ∃ t, u = Value.float y t from rx); cases q; exact PySem.W.kia_one PySem.W.kitx_float I.kIn True.intro e (fun z => nomatch z) h
  | @lst a xs ea =>
    cases (show u = Value.ref a from rx)
    obtain ⟨_, _, n, _, h1⟩ := (show ObjOk X.prog X.w H s.heap a (.lst xs) from I.hok a _ ea)
    exact PySem.W.kia_one PySem.W.kitx_list I.kIn ⟨_, h1, rfl⟩ e (fun z => nomatch z) h
  | @frz a ob xs ea =>
    cases (show u = Value.ref a from rx)
    obtain ⟨_, _, _, n, _, h1⟩ := (show ObjOk X.prog X.w H s.heap a (.frz ob (.lst xs)) from I.hok a _ ea)
    exact PySem.W.kia_one PySem.W.kitx_list I.kIn ⟨_, h1, rfl⟩ e (fun z => nomatch z) h
  | @tup a xs ea =>
    cases (show u = Value.ref a from rx)
    obtain ⟨_, _, _, p⟩ := (show ObjOk X.prog X.w H s.heap a (.tup xs) from I.hok a _ ea)
    obtain ⟨o, h1, h2, _⟩ := p
    exact PySem.W.kia_one PySem.W.kitx_tuple I.kIn ⟨o, h1, h2⟩ e (fun z => nomatch z) h
  | @dK a kvs ea =>
    cases (show u = Value.ref a from rx)
    obtain ⟨_, _, vs, _, p⟩ := (show ObjOk X.prog X.w H s.heap a (.dK kvs) from I.hok a _ ea)
    obtain ⟨o, es, ep, h1, h2, _⟩ := p
    exact PySem.W.kia_one PySem.W.kitx_dict I.kIn ⟨o, h1, h2.1⟩ e (fun z => nomatch z) h
  | @dT a kvs ea =>
    cases (show u = Value.ref a from rx)
    obtain ⟨_, _, xs, _, o, es, ep, h1, h2, _⟩ := (show ObjOk X.prog X.w H s.heap a (.dT kvs) from I.hok a _ ea)
    exact PySem.W.kia_one PySem.W.kitx_dict I.kIn ⟨o, h1, h2.1⟩ e (fun z => nomatch z) h
  | @ins a C dx fs ea cl ha hn htk hm =>
    cases (show u = Value.ref a from rx)
    obtain ⟨mA, O, _⟩ := ins_get I.hok ea
    obtain ⟨od, J, _⟩ := O.look
    exact PySem.W.kia_one (PySem.W.kitx_own (cl.get _) cl.hd ha hn htk hm) I.kIn J e (fun z => nomatch z) h
end
end L2

namespace L2
open PySem PySem.Spec PyProof.Rows

/-! ### room -/
structure Room (k : Nat) (A : Around) : Prop where
  hd : A.handled = none
  dp : A.depth + 3 * k + 5 < recursionLimit
  un : A.units + 16 * k + 200 < cLine
theorem Room.mono {j k : Nat} {A : Around} (r : Room k A) (h : j ≤ k) : Room j A := ⟨r.hd, by have := r.dp; omega, by have := r.un; omega⟩
theorem Room.deeper {k : Nat} {A : Around} (r : Room (k + 1) A) (env : Env) : Room k (A.deeper env) :=
  ⟨r.hd, by have := r.dp; show A.depth + 1 + 3 * k + 5 < _; omega, by have := r.un; show A.units + 3 + 16 * k + 200 < _; omega⟩
theorem Room.in1 {k : Nat} {A : Around} (r : Room (k + 1) A) : Room k A.in1 :=
  ⟨r.hd, by have := r.dp; show A.depth + 3 * k + 5 < _; omega, by have := r.un; show A.units + 1 + 16 * k + 200 < _; omega⟩
theorem make_depth {A : Around} {C : Addr} {us : List Value} {kw : List (Str × Value)} : (A.under (.builtin "type.__call__" ⟨.ref C :: us, kw⟩)).depth = A.depth + 1 := by
  first | rfl | simp [Around.under, Code.weight, Code.isCreation, Code.isGuard, Code.isCaller, Code.frames, Code.isFrame, guardIds]
theorem make_units {A : Around} {C : Addr} {us : List Value} {kw : List (Str × Value)} : (A.under (.builtin "type.__call__" ⟨.ref C :: us, kw⟩)).units = A.units + 1 := by
  first | rfl | simp [Around.under, Code.cUnits, Code.frames, Code.isFrame]
theorem Room.make {k : Nat} {A : Around} (r : Room (k + 1) A) (C : Addr) (us : List Value) (kw : List (Str × Value)) : Room k (A.under (.builtin "type.__call__" ⟨.ref C :: us, kw⟩)) :=
  ⟨r.hd, by have := r.dp; rw [make_depth]; omega, by have := r.un; rw [make_units]; omega⟩
theorem Room.depth {k : Nat} {A : Around} (r : Room k A) : A.depth < recursionLimit := by have := r.dp; omega
theorem Room.units {k : Nat} {A : Around} (r : Room k A) : A.units + 64 < cLine := by have := r.un; omega
theorem Room.units0 {k : Nat} {A : Around} (r : Room k A) : A.units < cLine := by have := r.un; omega

/-! ### argument lists and displays -/
def tNil : TA := fun _ H Q => Q [] H
def tCons (ta : TE) (tr : TA) : TA := fun σ H Q => ta σ H fun x H1 => tr σ H1 fun xs H2 => Q (x :: xs) H2
section
variable {X : Cx} {e : Expr} {es : List Expr} {te : TE} {t : TA} {pos : Pos}
theorem pa_nil : PA X [] tNil := fun _ _ _ _ H Q I h => Calls.spliced_nil ⟨[], H, I, .nil, h⟩
theorem pa_cons (ha : PE X e te) (hr : PA X es t) (hs : starEach (e :: es) X.env = (false, eval e X.env) :: starEach es X.env := by rfl) : PA X (e :: es) (tCons te t) := by
  intro pos pins s σ H Q I h
  rw [hs]
  show wpAny _ _ (spliced ((false, eval e X.env) :: backTo pos (starEach es X.env))) _ _ s
  refine Calls.spliced_cons (thn (ha pins s σ H _ I h) fun u s1 ⟨x, H1, I1, r1, q1⟩ => ?_)
  exact thn (hr pos pins s1 σ H1 _ I1 q1) fun us s2 ⟨xs, H2, I2, r2, q2⟩ => ⟨x :: xs, H2, I2, .cons r1 r2, q2⟩

/-- a tuple, a list of written items -/
def tTup (t : TA) : TE := fun σ H Q => t σ H fun xs H1 => xs.length ≤ sizeLine ∧ ∀ p, H1 p = none → Q (.ref p) (upd H1 p (.tup xs))
def tLst (t : TA) : TE := fun σ H Q => t σ H fun xs H1 => xs.length ≤ sizeLine ∧ ∀ p, H1 p = none → Q (.ref p) (upd H1 p (.lst xs))
theorem pe_tup {x1} (h : PA X es t) : PE X (.Tuple es x1 pos) (tTup t) := by
  intro pins s σ H Q I hq
  refine wpAny_Tuple_spliced (thn (h pos pins s σ H _ I hq) fun us s1 ⟨xs, H1, I1, r, z, q⟩ => ⟨by rw [← r.length]; exact z, ?_⟩)
  have hf : H1 s1.heap.objs.size = none := I1.hok.fresh (Nat.le_refl _)
  refine ⟨.ref s1.heap.objs.size, upd H1 s1.heap.objs.size (.tup xs), I1.laid (t' := s1.toks) (fun b u e => Heap.get?_push_of_some _ e) (Nat.le_refl _) ?_, rfl, q _ hf⟩
  exact ⟨z, us, r, ⟨_, Heap.get?_push_size _ rfl, rfl, _, rfl⟩⟩
theorem pe_lst (h : PA X es t) : PE X (.List es pos) (tLst t) := by
  intro pins s σ H Q I hq
  refine wpAny_List_spliced (thn (h pos pins s σ H _ I hq) fun us s1 ⟨xs, H1, I1, r, z, q⟩ => ⟨by rw [← r.length]; exact z, ?_⟩)
  have hf : H1 s1.heap.objs.size = none := I1.hok.fresh (Nat.le_refl _)
  refine ⟨.ref s1.heap.objs.size, upd H1 s1.heap.objs.size (.lst xs), I1.laid (t' := s1.toks) (fun b u e => Heap.get?_push_of_some _ e) (Nat.le_refl _) ?_, rfl, q _ hf⟩
  exact ⟨z, us, 0, r, Heap.get?_push_size _ rfl⟩
end

/-! ### what a def promises -/
/-- a def's promise: the bound arguments in the parameters' order, the heap, the wanted end, the wanted exception -/
abbrev Sp := List V → Hp → VK → XK → Prop
/-- how an exception lies behind a call (file 08 gives it): the callers' frames, abstract heap and state ahead of the call, the wish, the exception, the state -/
abbrev CXT := List Env → Hp → Shared → XK → Value → Shared → Prop

/-- the state at a call -/
structure Env0 (P : Program) (w : World) (K : PySem.W.Frag) (mg : Str → Option Value) (base : Heap) (A : Around) (outer : List Env) (s : Shared) (H : Hp) : Prop where
  frames : A.frames = some outer
  mod : Mod K mg base
  bs : ∀ b o, base.get? b = some o → s.heap.get? b = some o ∧ H b = none
  bsz : base.objs.size ≤ s.heap.objs.size
  funs : s.heap.FunFrames base outer
  frf : ∀ b ∈ frs outer, H b = none
  hok : HOk P w H s.heap
  bare : AllBare s.gens
/-- a call's end -/
def CE (outer : List Env) (P : Program) (w : World) (H : Hp) (s : Shared) (Q : VK) (u : Value) (s' : Shared) : Prop :=
  ∃ v H', s'.os = s.os ∧ AllBare s'.gens ∧ Un (frs outer) [] H H' s.heap s'.heap ∧ HOk P w H' s'.heap ∧ RelV v u ∧ Q v H'
def CR (CX : CXT) (outer : List Env) (P : Program) (w : World) (H : Hp) (s : Shared) (Q : VK) (E : XK) (r : Result) (s' : Shared) : Prop :=
  match r with
  | .ok (.ret u) => CE outer P w H s Q u s'
  | .ok _ => False
  | .error e => CX outer H s E e s'
structure FnOk (P : Program) (w : World) (K : PySem.W.Frag) (mg : Str → Option Value) (base : Heap) (CX : CXT) (k : Nat) (f : Addr) (fd : FuncData) (ps : List Str) (sp : Sp) : Prop where
  len : ∀ vs H Q E, sp vs H Q E → vs.length = ps.length
  run : ∀ (A : Around) (outer : List Env) (s : Shared) (H : Hp) (args : Args) (us : List Value) (vs : List V) (Q : VK) (E : XK), Room k A → Env0 P w K mg base A outer s H → BindsTo s fd args (ps.zip us) → Vals vs us → sp vs H Q E →
    codeAny (model P w) A (.call (.ref f) args) (CR CX outer P w H s Q E) s
theorem FnOk.mono {P : Program} {w : World} {K : PySem.W.Frag} {mg : Str → Option Value} {base : Heap} {CX : CXT} {j k : Nat} {f : Addr} {fd : FuncData} {ps : List Str} {sp : Sp} (F : FnOk P w K mg base CX j f fd ps sp) (h : j ≤ k) :
    FnOk P w K mg base CX k f fd ps sp := ⟨F.len, fun A outer s H args us vs Q E hr => F.run A outer s H args us vs Q E (hr.mono h)⟩
/-- a weaker promise -/
theorem FnOk.imp {P : Program} {w : World} {K : PySem.W.Frag} {mg : Str → Option Value} {base : Heap} {CX : CXT} {k : Nat} {f : Addr} {fd : FuncData} {ps : List Str} {sp sp' : Sp} (F : FnOk P w K mg base CX k f fd ps sp)
    (h : ∀ vs H Q E, sp' vs H Q E → sp vs H Q E) : FnOk P w K mg base CX k f fd ps sp' :=
  ⟨fun vs H Q E q => F.len vs H Q E (h _ _ _ _ q), fun A outer s H args us vs Q E hr he hb hv hs => F.run A outer s H args us vs Q E hr he hb hv (h _ _ _ _ hs)⟩

theorem Env0.make {P : Program} {w : World} {K : PySem.W.Frag} {mg : Str → Option Value} {base : Heap} {A : Around} {outer : List Env} {s : Shared} {H : Hp} (e : Env0 P w K mg base A outer s H) (C : Addr) (us : List Value) (kw : List (Str × Value)) :
    Env0 P w K mg base (A.under (.builtin "type.__call__" ⟨.ref C :: us, kw⟩)) outer s H := ⟨by first | exact e.frames | (simpa [Around.under, Code.envs, Code.isFrame, pushEnvs] using e.frames), e.mod, e.bs, e.bsz, e.funs, e.frf, e.hok, e.bare⟩
theorem Env0.in1 {P : Program} {w : World} {K : PySem.W.Frag} {mg : Str → Option Value} {base : Heap} {A : Around} {outer : List Env} {s : Shared} {H : Hp} (e : Env0 P w K mg base A outer s H) :
    Env0 P w K mg base A.in1 outer s H := ⟨e.frames, e.mod, e.bs, e.bsz, e.funs, e.frf, e.hok, e.bare⟩

section
variable {X : Cx} {pins : List (Addr × Obj)} {σ : St} {H : Hp} {s s' : Shared}
/-- from a body: what a callee wants -/
theorem Inv.env0 (I : Inv X pins σ H s) : Env0 X.prog X.w X.K X.mg X.base X.A X.stack s H :=
  ⟨I.ok.frames, I.ok.mod, I.bs, Nat.le_trans I.ok.bsz I.sz, I.stack, I.stkFree, I.hok, I.bare⟩
/-- behind a call -/
theorem Inv.after {Q : VK} {u : Value} (I : Inv X pins σ H s) (h : CE X.stack X.prog X.w H s Q u s') : EP X pins σ Q u s' := by
  obtain ⟨v, H', os, bare, un, hok, r, q⟩ := h
  obtain ⟨hh, g, d, t, os'⟩ := s'
  obtain rfl : os' = s.os := os
  exact ⟨v, H', I.call (h' := hh) (g' := g) (d' := d) (t' := t) (ch := []) un hok bare (fun b z => absurd z (by simp)), r, q⟩
end

/-! ### calls -/
/-- f(..): the written arguments, then the defaults dvs; E: what is wanted of an exception -/
def tCall (sp : Sp) (dvs : List V) (E : XK) (t : TA) : TE := fun σ H Q => t σ H fun vs H1 => sp (vs ++ dvs) H1 Q E
/-- o.m(..) of an instance of the class at C -/
def tMeth (C : Addr) (m : Str) (sp : Sp) (dvs : List V) (E : XK) (ta : TE) (t : TA) : TE := fun σ H Q => ta σ H fun x H1 => ∃ a dx fs, x = .ref a ∧ H1 a = some (.ins C dx fs) ∧ fs.lookup m = none ∧
  t σ H1 fun vs H2 => sp (x :: (vs ++ dvs)) H2 Q E
/-- C(..): a new instance and its dict, then __init__ -/
def tMake (C : Addr) (sp : Sp) (dvs : List V) (E : XK) (t : TA) : TE := fun σ H Q => t σ H fun vs H1 => ∀ x dx, H1 x = none → H1 dx = none → dx ≠ x →
  sp (.ref x :: (vs ++ dvs)) (upd (upd H1 dx (.own x)) x (.ins C dx [])) (fun v H2 => v = .non ∧ Q (.ref x) H2) E

/-- how the parameters are bound: us the positional arguments, kw the keywords' values by name, ds the defaults that fill up -/
def Binds (K : PySem.W.Frag) (fd : FuncData) (ps : List Str) (ds : List Value) : Prop :=
  ∀ (s : Shared) (us : List Value), K.In s.heap → (us ++ ds).length = ps.length → BindsTo s fd ⟨us, []⟩ (ps.zip (us ++ ds))
/-- every parameter is given -/
theorem Binds.all {K : PySem.W.Frag} {fd : FuncData} {ps : List Str} (h : ∀ us : List Value, us.length = ps.length → bindArgs fd ⟨us, []⟩ = pure (ps.zip us)) : Binds K fd ps [] := fun s us _ hl => by
  rw [List.append_nil] at hl ⊢
  exact .of_eq (h us hl)

/-- an exception of a callee reaches what this body wants of exceptions -/
def Passes (CX : CXT) (X : Cx) (E : XK) : Prop := ∀ (pins : List (Addr × Obj)) (σ : St) (H : Hp) (s : Shared) (e : Value) (s' : Shared), Inv X pins σ H s → CX X.stack H s E e s' → X.xe e s'

section
variable {X : Cx} {CX : CXT} {k : Nat} {f C : Addr} {fd : FuncData} {ps : List Str} {sp : Sp} {dvs : List V} {ds : List Value} {E : XK} {x m : Str} {p pos apos : Pos} {e o : Expr} {es : List Expr} {ta : TE} {t : TA}

/-- the callee runs -/
theorem run_fn {pins : List (Addr × Obj)} {σ : St} {H : Hp} {s : Shared} {Q : VK} {us : List Value} {vs : List V} (F : FnOk X.prog X.w X.K X.mg X.base CX k f fd ps sp) (hr : Room k X.A) (hb : Binds X.K fd ps ds) (hd : Vals dvs ds) (hx : Passes CX X E)
    (I : Inv X pins σ H s) (r : Vals vs us) (h : sp (vs ++ dvs) H Q E) : wpAny (model X.prog X.w) X.A (call (.ref f) us) (EP X pins σ Q) X.xe s := by
  have r2 : Vals (vs ++ dvs) (us ++ ds) := r.append hd
  have hl : (us ++ ds).length = ps.length := by rw [← r2.length]; exact F.len _ _ _ _ h
  refine wpAny_call (codeAny_mono (F.run X.A X.stack s H ⟨us, []⟩ (us ++ ds) (vs ++ dvs) Q E hr I.env0 (hb s us I.kIn hl) r2 h) fun r s' hq => ?_)
  cases r with
  | error e => exact hx pins σ H s e s' I hq
  | ok fl =>
    cases fl with
    | ret u => exact I.after hq
    | next => exact False.elim hq
    | brk => exact False.elim hq
    | cont => exact False.elim hq

theorem pe_call (F : FnOk X.prog X.w X.K X.mg X.base CX k f fd ps sp) (hr : Room k X.A) (hg : Gl X x) (hm : X.mg x = some (.ref f)) (hk : PySem.W.keepIn X.K (.ref f) = true) (hb : Binds X.K fd ps ds) (hd : Vals dvs ds) (hx : Passes CX X E)
    (ha : PA X (e :: es) t) (hdb : (x == ("__debug__" : Str)) = false := by decide) (he : starEach (e :: es) X.env = (false, eval e X.env) :: starEach es X.env := by rfl) (hpl : (backTo pos (starEach es X.env)).any (·.1) = false := by rfl) :
    PE X (.Call (.Name x p) (e :: es) [] pos) (tCall sp dvs E t) := by
  intro pins s σ H Q I h
  refine wpAny_Call_Name_kw (ld_glob I hg hm ?_ hdb)
  refine PySem.W.callWith_K (h₀ := X.base) I.ok.mod.kin hk (thn (ha pos pins s σ H _ I h) fun us s1 ⟨vs, H1, I1, r, q⟩ => ⟨I1.kIn, ?_⟩) he hpl
  exact run_fn F hr hb hd hx I1 r q
theorem pe_call0 (F : FnOk X.prog X.w X.K X.mg X.base CX k f fd ps sp) (hr : Room k X.A) (hg : Gl X x) (hm : X.mg x = some (.ref f)) (hk : PySem.W.keepIn X.K (.ref f) = true) (hb : Binds X.K fd ps ds) (hd : Vals dvs ds) (hx : Passes CX X E)
    (hdb : (x == ("__debug__" : Str)) = false := by decide) : PE X (.Call (.Name x p) [] [] pos) (tCall sp dvs E tNil) := by
  intro pins s σ H Q I h
  refine wpAny_Call_Name_kw (ld_glob I hg hm ?_ hdb)
  exact PySem.W.callWith_K0 I.kIn hk (run_fn (us := []) F hr hb hd hx I .nil h)

/-- o.m(e, ..) -/
theorem pe_meth {pl : Sem Bool} (he : PE X o ta) (c : Cls X.K C) (hm : Meth X.K C m f) (F : FnOk X.prog X.w X.K X.mg X.base CX k f fd ps sp) (hr : Room k X.A) (hb : Binds X.K fd ps ds) (hd : Vals dvs ds) (hx : Passes CX X E) (ha : PA X (e :: es) t)
    (hst : starEach (e :: es) X.env = (false, eval e X.env) :: starEach es X.env := by rfl) (hpl : (backTo pos (starEach es X.env)).any (·.1) = false := by rfl)
    (ht : eval (.Call (.Attribute o m apos) (e :: es) [] pos) X.env = (do
      let ov ← eval o X.env
      standAt apos.atName
      let (f, first) ← holding [ov] (getMethod ov m pl)
      callWith pos f first (backTo pos (starEach (e :: es) X.env)) (backToKw pos (keywordEach [] X.env))) := by rfl) :
    PE X (.Call (.Attribute o m apos) (e :: es) [] pos) (tMeth C m sp dvs E ta t) := by
  intro pins s σ H Q I h
  refine PySem.W.methodCall_KW (pl := pl) (thn (he pins s σ H _ I h) fun u s1 ⟨x, H1, I1, rx, a, dx, fs, ex, ea, l, q⟩ => ?_) ht
  subst ex
  obtain rfl : u = Value.ref a := rx
  refine getmeth_ok I1 ea c hm l ?_
  refine PySem.W.callWith_K (first := [.ref a]) (h₀ := X.base) I.ok.mod.kin hm.kp (thn (ha pos pins s1 σ H1 _ I1 q) fun us s2 ⟨vs, H2, I2, r, q2⟩ => ⟨I2.kIn, ?_⟩) hst hpl
  exact run_fn (us := .ref a :: us) (vs := .ref a :: vs) F hr hb hd hx I2 (.cons rfl r) q2
/-- o.m() -/
theorem pe_meth0 {pl : Sem Bool} (he : PE X o ta) (c : Cls X.K C) (hm : Meth X.K C m f) (F : FnOk X.prog X.w X.K X.mg X.base CX k f fd ps sp) (hr : Room k X.A) (hb : Binds X.K fd ps ds) (hd : Vals dvs ds) (hx : Passes CX X E)
    (ht : eval (.Call (.Attribute o m apos) [] [] pos) X.env = (do
      let ov ← eval o X.env
      standAt apos.atName
      let (f, first) ← holding [ov] (getMethod ov m pl)
      callWith pos f first (backTo pos (starEach [] X.env)) (backToKw pos (keywordEach [] X.env))) := by rfl) :
    PE X (.Call (.Attribute o m apos) [] [] pos) (tMeth C m sp dvs E ta tNil) := by
  intro pins s σ H Q I h
  refine PySem.W.methodCall_KW (pl := pl) (thn (he pins s σ H _ I h) fun u s1 ⟨x, H1, I1, rx, a, dx, fs, ex, ea, l, q⟩ => ?_) ht
  subst ex
  obtain rfl : u = Value.ref a := rx
  refine getmeth_ok I1 ea c hm l ?_
  exact PySem.W.callWith_K0 (first := [.ref a]) I1.kIn hm.kp (run_fn (us := [.ref a]) (vs := [.ref a]) F hr hb hd hx I1 (.cons rfl .nil) q)

/-- what a class must have to be made -/
structure Mk (K : PySem.W.Frag) (C f : Addr) : Prop where
  makes : PySem.W.makesIn K C = true
  init : PySem.W.findIn K (.ref C) "__init__" = some (some (.ref f))
  fn : PySem.W.isFn K (.ref f) = true
  kp : PySem.W.keepIn K (.ref C) = true

theorem run_make {pins : List (Addr × Obj)} {σ : St} {H : Hp} {s : Shared} {Q : VK} {us : List Value} {vs : List V} (M : Mk X.K C f) (F : FnOk X.prog X.w X.K X.mg X.base CX k f fd ps sp) (hr : Room (k + 1) X.A) (hb : Binds X.K fd ps ds) (hd : Vals dvs ds)
    (hx : Passes CX X E) (I : Inv X pins σ H s) (r : Vals vs us)
    (h : ∀ x dx, H x = none → H dx = none → dx ≠ x → sp (.ref x :: (vs ++ dvs)) (upd (upd H dx (.own x)) x (.ins C dx [])) (fun v H2 => v = .non ∧ Q (.ref x) H2) E) :
    wpAny (model X.prog X.w) X.A (call (.ref C) us) (EP X pins σ Q) X.xe s := by
  have hq := h (s.heap.objs.size + 1) s.heap.objs.size (I.hok.fresh (Nat.le_succ _)) (I.hok.fresh (Nat.le_refl _)) (Nat.ne_of_lt (Nat.lt_succ_self _))
  have I2 := Inv.made (C := C) I
  have r2 : Vals (V.ref (s.heap.objs.size + 1) :: (vs ++ dvs)) (Value.ref (s.heap.objs.size + 1) :: (us ++ ds)) := .cons rfl (r.append hd)
  have hl : (Value.ref (s.heap.objs.size + 1) :: us ++ ds).length = ps.length := by
    have e := r2.length
    rw [F.len _ _ _ _ hq] at e
    exact e.symm
  refine wpAny_call (make_map (f := f) I.kIn M.makes M.init (beq_iff_eq.mp M.fn) (codeAny_mono (F.run _ X.stack _ _ ⟨Value.ref (s.heap.objs.size + 1) :: us, []⟩ (Value.ref (s.heap.objs.size + 1) :: (us ++ ds)) _ _ E (hr.make C us [])
    (I2.env0.make C us []) (hb _ (Value.ref (s.heap.objs.size + 1) :: us) I2.kIn hl) r2 hq) fun r s' hq' => ?_))
  cases r with
  | error e => exact hx pins σ _ _ e s' I2 hq'
  | ok fl =>
    cases fl with
    | ret u =>
      obtain ⟨v, H', I3, rv, ev, q3⟩ := I2.after hq'
      subst ev
      exact ⟨rv, ⟨V.ref (s.heap.objs.size + 1), H', I3, rfl, q3⟩⟩
    | next => exact False.elim hq'
    | brk => exact False.elim hq'
    | cont => exact False.elim hq'
theorem pe_make (M : Mk X.K C f) (F : FnOk X.prog X.w X.K X.mg X.base CX k f fd ps sp) (hr : Room (k + 1) X.A) (hg : Gl X x) (hm : X.mg x = some (.ref C)) (hb : Binds X.K fd ps ds) (hd : Vals dvs ds) (hx : Passes CX X E)
    (ha : PA X (e :: es) t) (hdb : (x == ("__debug__" : Str)) = false := by decide) (he : starEach (e :: es) X.env = (false, eval e X.env) :: starEach es X.env := by rfl) (hpl : (backTo pos (starEach es X.env)).any (·.1) = false := by rfl) :
    PE X (.Call (.Name x p) (e :: es) [] pos) (tMake C sp dvs E t) := by
  intro pins s σ H Q I h
  refine wpAny_Call_Name_kw (ld_glob I hg hm ?_ hdb)
  refine PySem.W.callWith_K (h₀ := X.base) I.ok.mod.kin M.kp (thn (ha pos pins s σ H _ I h) fun us s1 ⟨vs, H1, I1, r, q⟩ => ⟨I1.kIn, ?_⟩) he hpl
  exact run_make M F hr hb hd hx I1 r q
theorem pe_make0 (M : Mk X.K C f) (F : FnOk X.prog X.w X.K X.mg X.base CX k f fd ps sp) (hr : Room (k + 1) X.A) (hg : Gl X x) (hm : X.mg x = some (.ref C)) (hb : Binds X.K fd ps ds) (hd : Vals dvs ds) (hx : Passes CX X E)
    (hdb : (x == ("__debug__" : Str)) = false := by decide) : PE X (.Call (.Name x p) [] [] pos) (tMake C sp dvs E tNil) := by
  intro pins s σ H Q I h
  refine wpAny_Call_Name_kw (ld_glob I hg hm ?_ hdb)
  exact PySem.W.callWith_K0 I.kIn M.kp (run_make (us := []) M F hr hb hd hx I .nil h)
end

/-! ### keywords -/
/-- the values of the keywords, from the left -/
def PK (X : Cx) (kws : List Keyword) (t : TA) : Prop :=
  ∀ (pos : Pos) (pins : List (Addr × Obj)) (s : Shared) (σ : St) (H : Hp) (Q : List V → Hp → Prop), Inv X pins σ H s → t σ H Q → wpAny (model X.prog X.w) X.A (evalAll ((backToKw pos (keywordEach kws X.env)).map (·.2))) (AP X pins σ Q) X.xe s
section
variable {X : Cx} {CX : CXT} {k : Nat} {f C : Addr} {fd : FuncData} {ps ks : List Str} {sp : Sp} {E : XK} {x m : Str} {p pos apos kpos : Pos} {e o : Expr} {es : List Expr} {kws : List Keyword} {te ta : TE} {t tk : TA} {nm : Option Str}
theorem pk_nil : PK X [] tNil := fun _ _ _ _ H Q I h => wpAny_evalAll_nil ⟨[], H, I, .nil, h⟩
theorem pk_cons (ha : PE X e te) (hr : PK X kws t) : PK X (⟨nm, e, kpos⟩ :: kws) (tCons te t) := by
  intro pos pins s σ H Q I h
  show wpAny _ _ (evalAll ((do let v ← eval e X.env; standAt pos; pure v) :: (backToKw pos (keywordEach kws X.env)).map (·.2))) _ _ s
  refine wpAny_evalAll_cons (wpAny_bind (thn (ha pins s σ H _ I h) fun u s1 ⟨x, H1, I1, r1, q1⟩ => wpAny_bind (wpAny_standAt (wpAny_pure ?_))))
  exact thn (hr pos pins s1 σ H1 _ I1 q1) fun us s2 ⟨xs, H2, I2, r2, q2⟩ => ⟨x :: xs, H2, I2, .cons r1 r2, q2⟩

/-- how a call with keywords binds: g puts the positional values us and the keywords' values ws (names ks) in the parameters' order, defaults among them -/
structure KBinds (K : PySem.W.Frag) (fd : FuncData) (ps ks : List Str) (g : List Value → List Value → List Value) (gV : List V → List V → List V) : Prop where
  to : ∀ (s : Shared) (us ws : List Value), K.In s.heap → (g us ws).length = ps.length → BindsTo s fd ⟨us, ks.zip ws⟩ (ps.zip (g us ws))
  rel : ∀ {vs : List V} {us : List Value} {zs : List V} {ws : List Value}, Vals vs us → Vals zs ws → Vals (gV vs zs) (g us ws)
def tCallK (sp : Sp) (gV : List V → List V → List V) (E : XK) (t tk : TA) : TE := fun σ H Q => t σ H fun vs H1 => tk σ H1 fun zs H2 => sp (gV vs zs) H2 Q E
variable {g : List Value → List Value → List Value} {gV : List V → List V → List V}
theorem run_fnk {pins : List (Addr × Obj)} {σ : St} {H : Hp} {s : Shared} {Q : VK} {us ws : List Value} {vs zs : List V} (F : FnOk X.prog X.w X.K X.mg X.base CX k f fd ps sp) (hr : Room k X.A) (hb : KBinds X.K fd ps ks g gV) (hx : Passes CX X E)
    (I : Inv X pins σ H s) (r : Vals vs us) (rz : Vals zs ws) (h : sp (gV vs zs) H Q E) : wpAny (model X.prog X.w) X.A (call (.ref f) us (ks.zip ws)) (EP X pins σ Q) X.xe s := by
  have r2 := hb.rel r rz
  have hl : (g us ws).length = ps.length := by rw [← r2.length]; exact F.len _ _ _ _ h
  refine wpAny_call (codeAny_mono (F.run X.A X.stack s H ⟨us, ks.zip ws⟩ (g us ws) (gV vs zs) Q E hr I.env0 (hb.to s us ws I.kIn hl) r2 h) fun r s' hq => ?_)
  cases r with
  | error e => exact hx pins σ H s e s' I hq
  | ok fl =>
    cases fl with
    | ret u => exact I.after hq
    | next => exact False.elim hq
    | brk => exact False.elim hq
    | cont => exact False.elim hq
/-- f(e, .., k = v, ..) -/
theorem pe_callK (F : FnOk X.prog X.w X.K X.mg X.base CX k f fd ps sp) (hr : Room k X.A) (hg : Gl X x) (hm : X.mg x = some (.ref f)) (hk : PySem.W.keepIn X.K (.ref f) = true) (hb : KBinds X.K fd ps ks g gV) (hx : Passes CX X E)
    (ha : PA X (e :: es) t) (hkw : PK X kws tk) (hall : (backToKw pos (keywordEach kws X.env)).all (·.1.isSome) = true := by rfl) (hks : (backToKw pos (keywordEach kws X.env)).filterMap (·.1) = ks := by rfl)
    (hdb : (x == ("__debug__" : Str)) = false := by decide) (he : starEach (e :: es) X.env = (false, eval e X.env) :: starEach es X.env := by rfl)
    (hpl : ((backTo pos (starEach (e :: es) X.env)).any (·.1) || (backToKw pos (keywordEach kws X.env)).any (·.1.isNone)) = false := by rfl) :
    PE X (.Call (.Name x p) (e :: es) kws pos) (tCallK sp gV E t tk) := by
  intro pins s σ H Q I h
  refine wpAny_Call_Name_kw (ld_glob I hg hm ?_ hdb)
  refine PySem.W.callWith_KW (h₀ := X.base) I.ok.mod.kin hk hall (thn (ha pos pins s σ H _ I h) fun us s1 ⟨vs, H1, I1, r, q⟩ => ?_) hpl he
  refine thn (hkw pos pins s1 σ H1 _ I1 q) fun ws s2 ⟨zs, H2, I2, rz, q2⟩ => ⟨I2.kIn, ?_⟩
  rw [hks]
  exact run_fnk F hr hb hx I2 r rz q2
end

/-! ### a def's body keeps its promise -/
/-- names: the parameters first -/
structure FnScope (N P : List Str) (sc : Scope) : Prop where
  kind : sc.kind = .function
  co : sc.isCoroutine = false
  gen : sc.isGenerator = false
  nd : N.Nodup
  pre : N.take P.length = P
  par : ∀ x ∈ P, sc.names.lookup x = some .local ∨ sc.names.lookup x = some .cell
  nofree : ∀ y ∈ sc.names, y.2 ≠ .free

theorem bindL_out {kindOf : Str → Option NameKind} {x : Str} : ∀ {binds : List (Str × Value)} {m : Str → Option Value}, (∀ v, (x, v) ∉ binds) → bindL kindOf binds m x = m x
  | [], _, _ => rfl
  | (n, v) :: r, m, h => by
    unfold bindL
    rw [bindL_out fun w hw => h w (List.mem_cons_of_mem _ hw)]
    split
    · have : x ≠ n := by rintro rfl; exact h v List.mem_cons_self
      simp [this]
    · rfl
theorem bindC_out {kindOf : Str → Option NameKind} {x : Str} : ∀ {binds : List (Str × Value)} {m : Str → Option Value}, (∀ v, (x, v) ∉ binds) → bindC kindOf binds m x = m x
  | [], _, _ => rfl
  | (n, v) :: r, m, h => by
    unfold bindC
    rw [bindC_out fun w hw => h w (List.mem_cons_of_mem _ hw)]
    split
    · rfl
    · have : x ≠ n := by rintro rfl; exact h v List.mem_cons_self
      simp [this]
theorem bindL_get {kindOf : Str → Option NameKind} {x : Str} {v : Value} : ∀ {P : List Str} {vs : List Value} {i : Nat} {m : Str → Option Value}, P.Nodup → P[i]? = some x → vs[i]? = some v → kindOf x = some .local →
    bindL kindOf (P.zip vs) m x = some v
  | [], _, _, _, _, h, _, _ => by simp at h
  | _ :: _, [], _, _, _, _, h, _ => by simp at h
  | p :: P, w :: vs, 0, m, nd, h1, h2, hk => by
    simp at h1 h2; subst h1; subst h2
    show bindL kindOf ((p, w) :: P.zip vs) m p = _
    unfold bindL
    rw [bindL_out fun v hv => (List.nodup_cons.mp nd).1 (List.of_mem_zip hv).1, if_pos hk]
    simp
  | p :: P, w :: vs, i + 1, m, nd, h1, h2, hk => by
    show bindL kindOf ((p, w) :: P.zip vs) m x = _
    unfold bindL
    exact bindL_get (i := i) (List.nodup_cons.mp nd).2 (by simpa using h1) (by simpa using h2) hk
theorem bindC_get {kindOf : Str → Option NameKind} {x : Str} {v : Value} : ∀ {P : List Str} {vs : List Value} {i : Nat} {m : Str → Option Value}, P.Nodup → P[i]? = some x → vs[i]? = some v → kindOf x ≠ some .local →
    bindC kindOf (P.zip vs) m x = some v
  | [], _, _, _, _, h, _, _ => by simp at h
  | _ :: _, [], _, _, _, _, h, _ => by simp at h
  | p :: P, w :: vs, 0, m, nd, h1, h2, hk => by
    simp at h1 h2; subst h1; subst h2
    show bindC kindOf ((p, w) :: P.zip vs) m p = _
    unfold bindC
    rw [bindC_out fun v hv => (List.nodup_cons.mp nd).1 (List.of_mem_zip hv).1, if_neg hk]
    simp
  | p :: P, w :: vs, i + 1, m, nd, h1, h2, hk => by
    show bindC kindOf ((p, w) :: P.zip vs) m x = _
    unfold bindC
    exact bindC_get (i := i) (List.nodup_cons.mp nd).2 (by simpa using h1) (by simpa using h2) hk

/-- the names' values at the entry -/
def start (N : List Str) (vs : List V) : St := vs.map some ++ List.replicate (N.length - vs.length) none

/-- the context of a def's body, at its entry; an exception leaves the frame, then lies as CX says -/
def cxOf (CX : CXT) (P : Program) (w : World) (K : PySem.W.Frag) (mg : Str → Option Value) (base : Heap) (N : List Str) (qual : Str) (scope : Scope) (f : Addr) (cd : Value) (A : Around) (outer : List Env) (s : Shared) (H : Hp) (E : XK) : Cx where
  prog := P
  w := w
  K := K
  mg := mg
  base := base
  A := A.deeper (envOfC qual scope s.heap.objs.size f cd)
  N := N
  s₀ := s
  H₀ := H
  env := envOfC qual scope s.heap.objs.size f cd
  outer := outer
  stack := envOfC qual scope s.heap.objs.size f cd :: outer
  ex := []
  calm := true
  fn := fun _ => true
  pn := []
  xe := fun e s' => wpAny (model P w) (A.deeper (envOfC qual scope s.heap.objs.size f cd)) (leaving (envOfC qual scope s.heap.objs.size f cd) e) (fun _ s'' => CX outer H s E e s'') (fun e' s'' => CX outer H s E e' s'') s'

theorem cell_has {sc : Scope} {n : Nat} {x : Str} (h : sc.names.lookup x = some .cell) : ∃ c, (cellsFrom n sc.names []).lookup x = some c := by
  have q := PySem.W.cellsFrom_some sc.names n [] (.inl h)
  exact Option.isSome_iff_exists.mp q

theorem inv_start {CX : CXT} {P : Program} {w : World} {K : PySem.W.Frag} {mg : Str → Option Value} {base : Heap} {N ps : List Str} {qual : Str} {scope : Scope} {f : Addr} {cd : Value} {A : Around} {outer : List Env} {s s1 : Shared} {H : Hp} {E : XK} {us : List Value} {vs : List V}
    (S : FnScope N ps scope) (hd : A.handled = none) (e0 : Env0 P w K mg base A outer s H) (hl : vs.length = ps.length) (r : Vals vs us)
    (x : InCallC s s.heap.objs.size (bindL (envOfC qual scope s.heap.objs.size f cd).kindOf (ps.zip us) fun _ => none) (cellsFrom (s.heap.objs.size + 1) scope.names []) (bindC (envOfC qual scope s.heap.objs.size f cd).kindOf (ps.zip us) fun _ => none) s1) :
    Inv (cxOf CX P w K mg base N qual scope f cd A outer s H E) [] (start N vs) H s1 := by
  have hpl : ps.length ≤ N.length := by have := congrArg List.length S.pre; rw [List.length_take] at this; omega
  obtain ⟨h1, tk, rfl, hk⟩ := x.done
  have noA : ∀ b : Addr, b ∉ (cxOf CX P w K mg base N qual scope f cd A outer s H E).ex := fun b z => absurd (show b ∈ ([] : List Addr) from z) (by simp)
  refine ⟨⟨e0.mod, S.kind, rfl, rfl, Nat.le_refl _, fun y z c h1 h2 => ?_, fun y hy => ?_, fun y c _ h => ?_, fun _ => hd, Around.frames_deeper e0.frames, .inr ⟨rfl, rfl⟩, fun b z => absurd z (noA b), e0.bs, e0.bsz, fun b _ _ => noA b, fun b z => absurd z (noA b), e0.funs, e0.frf⟩,
    rfl, e0.bare, Un.kept hk, ⟨_, x.toInCall.ns, fun i y v h1 h2 h3 => ?_⟩, fun y c h => ⟨_, x.cell y c h⟩, e0.hok.fresh (Nat.le_refl _), fun y c h => ?_, fun p hp => absurd (show p ∈ ([] : List (Addr × Obj)) from hp) (by simp), e0.hok.kept hk, ?_⟩
  · exact name_of_addr x.apart (PySem.mem_of_lookup h1) (PySem.mem_of_lookup h2)
  · have hy : scope.names.lookup y = some .cell ∨ scope.names.lookup y = some .free := hy
    rcases hy with hy | hy
    · exact cell_has hy
    · exact absurd rfl (S.nofree _ (PySem.mem_of_lookup hy))
  · exact Nat.le_of_lt (x.above y c (PySem.mem_of_lookup h))
  · have hi : i < vs.length := by
      unfold start at h2
      by_cases hi : i < vs.length
      · exact hi
      · rw [List.getElem?_append_right (by simpa using hi)] at h2
        rw [List.getElem?_replicate] at h2
        split at h2 <;> cases h2
    have ha : vs[i]? = some v := by
      unfold start at h2
      rw [List.getElem?_append_left (by simpa using hi), List.getElem?_map] at h2
      cases e : vs[i]? with
      | none => rw [e] at h2; cases h2
      | some a => rw [e] at h2; cases h2; rfl
    obtain ⟨u, hu, rv⟩ := r.get ha
    have hp : ps[i]? = some y := by
      rw [← S.pre, List.getElem?_take_of_lt (by omega)]; exact h1
    have ndP : ps.Nodup := by rw [← S.pre]; exact S.nd.sublist (List.take_sublist _ _)
    refine ⟨u, rv, ?_⟩
    rcases S.par y (List.mem_of_getElem? hp) with k | k
    · exact .inl ⟨k, bindL_get ndP hp hu k⟩
    · obtain ⟨c, e⟩ := cell_has (n := s.heap.objs.size + 1) k
      refine .inr ⟨.inl k, c, e, ?_⟩
      have q := x.cell y c e
      rw [bindC_get ndP hp hu (by show scope.names.lookup y ≠ _; rw [k]; decide)] at q
      exact q
  · exact e0.hok.fresh (Nat.le_of_lt (x.above y c (PySem.mem_of_lookup h)))
  · unfold start
    show _ = N.length
    rw [List.length_append, List.length_map, List.length_replicate]
    omega

/-- THE RULE: a def (or a method) of the text, by its body. The body's reading t is chosen for each entry; it is run at the parameters' values -/
theorem fn_of {CX : CXT} {P : Program} {w : World} {K : PySem.W.Frag} {mg : Str → Option Value} {base : Heap} {k : Nat} {f : Addr} {name qual : Str} {params : Arguments} {body : List Stmt} {scope : Scope} {dV kV doc pm cdv ct oc : Value} {an od : Option Addr}
    {osl : Array (Option Value)} {N ps : List Str} {sp : Sp} (lk : K.lookup f = some ⟨oc, od, .func (PySem.W.fnOf name qual params body scope dV kV doc pm an cdv ct), osl⟩) (hcd : PySem.W.codeIn K cdv qual = true) (S : FnScope N ps scope)
    (len : ∀ vs H Q E, sp vs H Q E → vs.length = ps.length)
    (hbody : ∀ (A : Around) (outer : List Env) (s : Shared) (H : Hp) (vs : List V) (Q : VK) (E : XK), Room k (A.deeper (envOfC qual scope s.heap.objs.size f cdv)) → sp vs H Q E →
      ∃ t, PSs (cxOf CX P w K mg base N qual scope f cdv A outer s H E) body t ∧ t { nx := fun _ H' => Q .non H', rt := Q } (start N vs) H) :
    FnOk P w K mg base CX (k + 1) f (PySem.W.fnOf name qual params body scope dV kV doc pm an cdv ct) ps sp := by
  refine ⟨len, fun A outer s H args us vs Q E hr e0 hb r hsp => ?_⟩
  have hl := len _ _ _ _ hsp
  have KX : K.In s.heap := e0.mod.kin.keeps fun b o e => (e0.bs b o e).1
  have lim : s.heap.NoLimit := e0.mod.nolimit.keeps fun b o e => (e0.bs b o e).1
  have hkind : ∀ y ∈ ps.zip us, scope.names.lookup y.1 = some .local ∨ (scope.names.lookup y.1 = some .cell ∧ ((cellsFrom (s.heap.objs.size + 1) scope.names []).lookup y.1).isSome = true) := fun ⟨n, v⟩ hy => by
    rcases S.par n (List.of_mem_zip hy).1 with q | q
    · exact .inl q
    · exact .inr ⟨q, PySem.W.cellsFrom_some _ _ _ (.inl q)⟩
  refine codeAny_call_function hr.depth (KX _ _ lk) rfl S.co S.gen rfl (PySem.W.codeRec_of KX hcd) (hb _ _ _ _ ?_)
  refine wpAny_newFunctionEnv_cells S.kind hkind fun env he s1 x => ?_
  subst he
  refine ⟨lim.keeps x.toInCall.keep, codeAny_func ?_⟩
  obtain ⟨t, ht, hq⟩ := hbody A outer s H vs Q E (hr.deeper _) hsp
  have I : Inv (cxOf CX P w K mg base N qual scope f cdv A outer s H E) [] (start N vs) H s1 := inv_start S hr.hd e0 hl r x
  refine wpAny_mono (ht [] s1 (start N vs) H _ I hq) (fun fl s' hs => ?_) fun e s' hs => hs
  have fin : ∀ {σ' : St} {H' : Hp} {v : V} {u : Value}, Inv (cxOf CX P w K mg base N qual scope f cdv A outer s H E) [] σ' H' s' → RelV v u → Q v H' → CE outer P w H s Q u s' :=
    fun {σ' H' v u} J rv q => ⟨v, H', J.os, J.bare, J.base, J.hok, rv, q⟩
  cases fl with
  | ret u =>
    obtain ⟨v, σ', H', J, rv, q⟩ := hs
    exact fin J rv q
  | next =>
    obtain ⟨σ', H', J, q⟩ := hs
    exact fin (v := V.non) (u := Value.none) J rfl q
  | brk =>
    obtain ⟨_, _, _, q⟩ := hs
    exact False.elim q
  | cont =>
    obtain ⟨_, _, _, q⟩ := hs
    exact False.elim q
end L2

namespace L2
open PySem PySem.Spec PyProof.Rows
section
variable {X : Cx} {x : Str} {p pos : Pos} {e : Expr} {es : List Expr} {t : TA} {id T : String} {r : List V → Hp → VK → Prop}

def tCB (r : List V → Hp → VK → Prop) (t : TA) : TE := fun σ H Q => t σ H fun vs H1 => r vs H1 Q
/-- f(e, ..), f a built-in function -/
theorem pe_callB (hc : CallR X (.builtin id) r) (hg : Gl X x) (hm : X.mg x = none) (hv : bootBuiltins x = some (.builtin id)) (ha : PA X (e :: es) t) (hn : x ≠ "__name__" := by decide) (hdb : (x == ("__debug__" : Str)) = false := by decide)
    (he : starEach (e :: es) X.env = (false, eval e X.env) :: starEach es X.env := by rfl) (hpl : (backTo pos (starEach es X.env)).any (·.1) = false := by rfl) : PE X (.Call (.Name x p) (e :: es) [] pos) (tCB r t) := by
  intro pins s σ H Q I h
  refine wpAny_Call_Name_kw (ld_blt I hg hm hv ?_ hn hdb)
  exact PyProof.Rows.callWith_builtin1 (thn (ha pos pins s σ H _ I h) fun us s1 ⟨vs, H1, I1, r1, q1⟩ => hc pins s1 σ H1 vs us Q I1 r1 q1) he hpl
/-- T(e, ..), T a built-in type -/
theorem pe_callTy (hc : CallR X (.type T) r) (hg : Gl X x) (hm : X.mg x = none) (hv : bootBuiltins x = some (.type T)) (ha : PA X (e :: es) t) (hn : x ≠ "__name__" := by decide) (hdb : (x == ("__debug__" : Str)) = false := by decide)
    (he : starEach (e :: es) X.env = (false, eval e X.env) :: starEach es X.env := by rfl) (hpl : (backTo pos (starEach es X.env)).any (·.1) = false := by rfl) : PE X (.Call (.Name x p) (e :: es) [] pos) (tCB r t) := by
  intro pins s σ H Q I h
  refine wpAny_Call_Name_kw (ld_blt I hg hm hv ?_ hn hdb)
  exact PyProof.Rows.callWith_type1 (thn (ha pos pins s σ H _ I h) fun us s1 ⟨vs, H1, I1, r1, q1⟩ => hc pins s1 σ H1 vs us Q I1 r1 q1) he hpl
/-- T() -/
theorem pe_callTy0 (hc : CallR X (.type T) r) (hg : Gl X x) (hm : X.mg x = none) (hv : bootBuiltins x = some (.type T)) (hn : x ≠ "__name__" := by decide) (hdb : (x == ("__debug__" : Str)) = false := by decide) :
    PE X (.Call (.Name x p) [] [] pos) (tCB r tNil) := by
  intro pins s σ H Q I h
  refine wpAny_Call_Name_kw (ld_blt I hg hm hv ?_ hn hdb)
  exact PyProof.Rows.callWith_type0 (hc pins s σ H [] [] Q I .nil h)
end
end L2

namespace HT
open PySem PyProof.Rows

/-- t < u of tuples of ints -/
def lexLt : List Int → List Int → Bool
  | [], [] => false
  | [], _ :: _ => true
  | _ :: _, [] => false
  | x :: xs, y :: ys => if x = y then lexLt xs ys else decide (x < y)
theorem lexLt_cons (x y : Int) (xs ys : List Int) : lexLt (x :: xs) (y :: ys) = if x = y then lexLt xs ys else decide (x < y) := rfl
theorem lexLt_nil_nil : lexLt [] [] = false := rfl
theorem lexLt_nil_cons (y : Int) (ys : List Int) : lexLt [] (y :: ys) = true := rfl
theorem lexLt_cons_nil (x : Int) (xs : List Int) : lexLt (x :: xs) [] = false := rfl

theorem eqAt_int (A : Around) (s : Shared) (a : Int) (t : Tok) (c : Int) (u : Tok) : ∃ e, SeqAt.EqAt A s (.int a t) (.int c u) e ∧ (e = true ↔ a = c) :=
  ⟨(a == c), SeqAt.EqAt.int_int a t c u, by simp⟩
theorem rcLt_int (A : Around) (s : Shared) (a : Int) (t : Tok) (c : Int) (u : Tok) (prog : Program) (w : World) (E : Value → Shared → Prop) (Q : Value → Shared → Prop) (h : Q (.bool (decide (a < c))) s) :
    wpAny (model prog w) A (richCompare .Lt (.int a t) (.int c u)) Q E s :=
  (PyProof.Rows.lt_int h : wpAny (model prog w) A (compareOp .Lt (.int a t) (.int c u)) Q E s)

section
open PySem.SeqAt
open PySem.AutoSeq1 (wpAny_loadPart')
open PySem.MeetsSeq PySem.MeetsSeq2 PySem.MeetsSeq3

theorem tuple_lt_ints (l b : Addr) (items items2 : Array Value) (n n2 : Nat) (dd dd2 : Option Addr) (sl sl2 : Array (Option Value)) (ns ms : List Int) (hi : IntsAre items.toList ns) (hj : IntsAre items2.toList ms) :
    Meets (Builtin.«tuple.__lt__» ⟨[.ref l, .ref b], []⟩)
      (fun _ R s => s.heap.get? l = some { cls := .type "tuple", dict := dd, data := .seq items n, slots := sl } ∧ s.heap.get? b = some { cls := .type "tuple", dict := dd2, data := .seq items2 n2, slots := sl2 } ∧
        R (.ok (.ret (.bool (lexLt ns ms)))) s) :=
  .of_wp fun prog w A R s h => by
    obtain ⟨hp, g, d, tk, os⟩ := s; obtain ⟨hl, hb, h⟩ := h
    have f2 := AutoSeq1.sub_tuple_tuple
    have z1 : items.size = ns.length := by rw [← hi.length]; simp
    have z2 : items2.size = ms.length := by rw [← hj.length]; simp
    wp_walk using wpAny_loadPart' hl, wpAny_loadPart' hb, wpAny_forIn_list _ (fun rest b s' => b.1 = none ∧ s' = ⟨hp, g, d, tk, os⟩ ∧ ∃ (vs ws : List Value) (ns' ms' : List Int), rest = vs.zip ws ∧
      IntsAre vs ns' ∧ IntsAre ws ms' ∧ ns'.length + items2.size = ms'.length + items.size ∧ R (.ok (.ret (.bool (lexLt ns' ms')))) ⟨hp, g, d, tk, os⟩) _
    case turn =>
      rintro ⟨y, x⟩ rest b s' ⟨hb', rfl, vs, ws, ns', ms', hz, hvi, hwi, hlen, hR⟩
      cases hvi with
      | nil => rw [List.zip_nil_left] at hz; cases hz
      | cons a t hvi' =>
        cases hwi with
        | nil => rw [List.zip_nil_right] at hz; cases hz
        | cons c u hwi' =>
          rw [List.zip_cons_cons] at hz
          injection hz with hyx hrest
          injection hyx with hy hx
          subst hy hx
          rw [lexLt_cons] at hR
          simp only [List.length_cons] at hlen
          obtain ⟨e, he, hiff⟩ := eqAt_int A.in1 ⟨hp, g, d, tk, os⟩ a t c u
          refine wpAny_bind (he prog w _ _ ?_)
          cases e with
          | true =>
            rw [if_pos (hiff.mp rfl)] at hR
            wp_walk
            exact ⟨rfl, rfl, _, _, _, _, hrest, hvi', hwi', by omega, hR⟩
          | false =>
            rw [if_neg (fun q => absurd (hiff.mpr q) Bool.false_ne_true)] at hR
            have hri := rcLt_int A.in1 ⟨hp, g, d, tk, os⟩ a t c u prog w
            wp_walk using hri
            exact ⟨_, rfl, by simpa using hR⟩
    case fin =>
      rintro ⟨b1, b2⟩ s' ⟨hb', rfl, vs, ws, ns', ms', hz, hvi, hwi, hlen, hR⟩
      simp only at hb'
      subst hb'
      have hv : lexLt ns' ms' = decide (items.size < items2.size) := by
        cases hvi with
        | nil =>
          cases hwi with
          | nil =>
            simp only [List.length_nil] at hlen
            rw [lexLt_nil_nil]
            exact (decide_eq_false (by omega)).symm
          | cons c u hw =>
            simp only [List.length_nil, List.length_cons] at hlen
            rw [lexLt_nil_cons]
            exact (decide_eq_true (by omega)).symm
        | cons a t hv =>
          cases hwi with
          | nil =>
            simp only [List.length_nil, List.length_cons] at hlen
            rw [lexLt_cons_nil]
            exact (decide_eq_false (by omega)).symm
          | cons c u hw =>
            rw [List.zip_cons_cons] at hz
            cases hz
      rw [hv] at hR
      wp_walk
      exact ⟨_, rfl, by simpa [Builtin.Tuple.tupleCompareSizes] using hR⟩
    case h =>
      exact ⟨rfl, rfl, items.toList, items2.toList, ns, ms, rfl, hi, hj, by omega, h⟩
end

section
variable {prog : Program} {w : World} {A : Around} {E : Value → Shared → Prop} {s : Shared}

theorem lt_tupInts {l b : Addr} {items items2 : Array Value} {ns ms : List Int} {Q : Value → Shared → Prop} (hl : IsTup s.heap l items) (hb : IsTup s.heap b items2) (hi : IntsAre items.toList ns) (hj : IntsAre items2.toList ms)
    (hu : A.units < cLine) (h : Q (.bool (lexLt ns ms)) s) : wpAny (model prog w) A (compareOp .Lt (.ref l) (.ref b)) Q E s := by
  obtain ⟨⟨cls, dd, data, sl⟩, ho, hc, n, hd⟩ := id hl
  obtain ⟨⟨cls2, dd2, data2, sl2⟩, ho2, hc2, n2, hd2⟩ := id hb
  simp only at hc hd hc2 hd2
  subst hc hd hc2 hd2
  exact richCompare_meets_room (op := .Lt) ⟨_, ho, rfl⟩ ⟨_, ho2, rfl⟩ PySem.F.slot_tuple_lt PySem.F.entry_tuple_lt (PySem.F.args_tuple_lt_2 _ _) (tuple_lt_ints l b items items2 n n2 dd dd2 sl sl2 ns ms hi hj)
    ⟨ho, ho2, show Value.bool (lexLt ns ms) ≠ Value.notImplemented ∧ Q (.bool (lexLt ns ms)) s from ⟨(fun x => nomatch x), h⟩⟩ hu

/-- t + u, t not empty -/
theorem cat_tup {t b : Addr} {vs ws : List Value} {Q : Value → Shared → Prop} (ht : IsTup s.heap t vs.toArray) (hb : IsTup s.heap b ws.toArray) (hv : vs ≠ [])
    (h1 : ws = [] → Q (.ref t) s) (h2 : ws ≠ [] → Q (.ref s.heap.objs.size) { s with heap := s.heap.push { cls := .type "tuple", data := .seq (vs ++ ws).toArray } })
    (hsz : vs.length + ws.length ≤ sizeLine) : wpAny (model prog w) A (binaryOp .Add (.ref t) (.ref b)) Q E s := by
  obtain ⟨⟨cls, dd, data, sl⟩, ho, hc, n, hd⟩ := id ht
  obtain ⟨⟨cls2, dd2, data2, sl2⟩, ho2, hc2, n2, hd2⟩ := id hb
  simp only at hc hd hc2 hd2
  subst hc hd hc2 hd2
  have e : vs.toArray ++ ws.toArray = (vs ++ ws).toArray := by simp
  by_cases hw : ws = []
  · exact concat_meets ⟨_, ho, rfl⟩ ⟨_, ho2, rfl⟩ noFill_tuple_add seq_tuple_add PySem.F.slot_tuple_add PySem.F.entry_tuple_add (PySem.F.args_tuple_add_2 _ _)
      (tuple_addW1 t b vs.toArray ws.toArray n n2 dd dd2 sl sl2 (by simpa using hv) (by simp [hw])) ⟨ho, ho2, h1 hw⟩
  · refine concat_meets ⟨_, ho, rfl⟩ ⟨_, ho2, rfl⟩ noFill_tuple_add seq_tuple_add PySem.F.slot_tuple_add PySem.F.entry_tuple_add (PySem.F.args_tuple_add_2 _ _)
      (tuple_addW2 t b vs.toArray ws.toArray n n2 dd dd2 sl sl2 (by simpa using hv) (by simpa using hw) (by rw [List.size_toArray, List.size_toArray]; exact hsz)) ⟨ho, ho2, ?_⟩
    rw [e]
    exact h2 hw

/-! ### t[a:b], not the whole -/
/-- a slice's bound as a place among n (d where it is left out) -/
def sIx (n d : Nat) : Option Int → Nat
  | none => d
  | some v => if v < 0 then (v + (n : Int)).toNat else min v.toNat n
theorem sIx_none (n d : Nat) : sIx n d none = d := rfl
theorem sIx_nat (n d k : Nat) : sIx n d (some (k : Int)) = min k n := by
  show (if (k : Int) < 0 then ((k : Int) + (n : Int)).toNat else min (k : Int).toNat n) = min k n
  rw [if_neg (by omega), Int.toNat_natCast]
theorem sIx_le (n d : Nat) (hd : d ≤ n) (o : Option Int) : sIx n d o ≤ n := by
  cases o with
  | none => exact hd
  | some v =>
    show (if v < 0 then (v + (n : Int)).toNat else min v.toNat n) ≤ n
    by_cases hv : v < 0
    · rw [if_pos hv]; omega
    · rw [if_neg hv]; exact Nat.min_le_right _ _
theorem clip_eq (v : Int) (n d : Nat) : (if v < 0 then max (v + (n : Int)) 0 else min v (n : Int)) = ((sIx n d (some v) : Nat) : Int) := by
  show (if v < 0 then max (v + (n : Int)) 0 else min v (n : Int)) = (((if v < 0 then (v + (n : Int)).toNat else min v.toNat n) : Nat) : Int)
  by_cases hv : v < 0
  · simp only [if_pos hv]; omega
  · simp only [if_neg hv]; omega
theorem adjust_gen (lo hi : Option Int) (n : Nat) : Builtin.Slice.sliceAdjust lo hi 1 (n : Int) = (((sIx n 0 lo : Nat) : Int), ((sIx n n hi : Nat) : Int)) := by
  have h1 : ¬ ((1 : Int) < 0) := by omega
  unfold Builtin.Slice.sliceAdjust
  simp only [h1, if_false]
  refine Prod.ext ?_ ?_
  · cases lo with
    | none => rfl
    | some v => exact clip_eq v n 0
  · cases hi with
    | none => rfl
    | some v => exact clip_eq v n n
theorem places_gen (i j : Nat) : Builtin.Slice.slicePlaces (i : Int) (j : Int) 1 = j - i := by
  unfold Builtin.Slice.slicePlaces
  have h1 : (1 : Int) > 0 := by omega
  simp only [h1, if_true, Int.ediv_one]
  split <;> omega
theorem slicePart_ {v : Value} {o : Option Int} {Q : Option Int → Shared → Prop} (p : IsPart v o) (h : Q o s) : wpAny (model prog w) A (Builtin.Slice.slicePartIndex v) Q E s := by
  cases p with
  | none => exact slicePart_none h
  | int i t => exact slicePart_int h
theorem sliceApplied_gen {sl : Addr} {vl vu : Value} {lo hi : Option Int} {n : Nat} {Q : Int × Int × Nat → Shared → Prop} (hs : s.heap.IsSliceOf sl vl vu .none) (pl : IsPart vl lo) (pu : IsPart vu hi)
    (h : Q (((sIx n 0 lo : Nat) : Int), 1, sIx n n hi - sIx n 0 lo) s) : wpAny (model prog w) A (Builtin.Slice.sliceApplied (.ref sl) (pure (n : Int))) Q E s := by
  obtain ⟨os, hos, hcs, hds⟩ := id hs
  unfold Builtin.Slice.sliceApplied Builtin.Slice.sliceFields
  refine wpAny_bind (wpAny_bind (wpAny_field hos hds (x := vl) rfl (wpAny_bind (wpAny_field hos hds (x := vu) rfl (wpAny_bind (wpAny_field hos hds (x := .none) rfl (wpAny_pure ?_)))))))
  refine wpAny_bind (slicePart_none ?_)
  show wpAny _ _ (if ((1 : Int) == 0) = true then _ else _) _ _ s
  rw [if_neg (by decide)]
  refine wpAny_bind (slicePart_ pl (wpAny_bind (slicePart_ pu (wpAny_bind (wpAny_pure ?_)))))
  show wpAny _ _ (match Builtin.Slice.sliceAdjust lo hi 1 (n : Int) with | (lo, hi) => pure (lo, (1 : Int), Builtin.Slice.slicePlaces lo hi 1)) _ _ s
  rw [adjust_gen lo hi n]
  show wpAny _ _ (pure (((sIx n 0 lo : Nat) : Int), (1 : Int), Builtin.Slice.slicePlaces ((sIx n 0 lo : Nat) : Int) ((sIx n n hi : Nat) : Int) 1)) _ _ s
  rw [places_gen]
  exact wpAny_pure h
theorem pick_gen (xs : Array Value) (i k : Nat) : ((List.range k).filterMap fun (m : Nat) => xs[((i : Int) + (m : Int) * 1).toNat]?).toArray = ((xs.toList.drop i).take k).toArray := by
  have e : (fun (m : Nat) => xs[((i : Int) + (m : Int) * 1).toNat]?) = fun m => xs[i + m]? := by
    funext m
    have : ((i : Int) + (m : Int) * 1).toNat = i + m := by omega
    rw [this]
  rw [e]
  have := pick_run xs i k
  rw [List.filterMap_map] at this
  have e2 : ((fun x => xs[x]?) ∘ fun x => i + x) = fun m => xs[i + m]? := rfl
  rw [e2] at this
  rw [this]

theorem getItem_tuple_cut {t sl : Addr} {items : Array Value} {vl vu : Value} {lo hi : Option Int} {Q : Value → Shared → Prop} (ht : IsTup s.heap t items) (hs : s.heap.IsSliceOf sl vl vu .none) (pl : IsPart vl lo) (pu : IsPart vu hi)
    (hw : ¬ (sIx items.size 0 lo = 0 ∧ sIx items.size items.size hi = items.size))
    (h : Q (.ref s.heap.objs.size) { s with heap := s.heap.push { cls := .type "tuple", data := .seq ((items.toList.drop (sIx items.size 0 lo)).take (sIx items.size items.size hi - sIx items.size 0 lo)).toArray } })
    (hsz : items.size ≤ sizeLine) : wpAny (model prog w) A (getItem (.ref t) (.ref sl)) Q E s := by
  have htake : sizeOk (.seq ((items.toList.drop (sIx items.size 0 lo)).take (sIx items.size items.size hi - sIx items.size 0 lo)).toArray) := by
    show ((items.toList.drop (sIx items.size 0 lo)).take (sIx items.size items.size hi - sIx items.size 0 lo)).toArray.size ≤ sizeLine
    rw [List.size_toArray, List.length_take, List.length_drop, Array.length_toList]
    omega
  have hj : sIx items.size items.size hi ≤ items.size := sIx_le _ _ (Nat.le_refl _) hi
  obtain ⟨os, hos, hcs, hds⟩ := id hs
  have hTs : s.TypeIs (.ref sl) "slice" := ⟨os, hos, hcs⟩
  unfold getItem
  try with_reducible refine wpAny_holding ?_
  first | refine wpAny_bind (wpAny_pure ?_) | skip
  refine wpAny_bind (wpAny_sequenceKey ht.typeIs (by decide) ?_)
  refine wpAny_bind (wpAny_callSpecial?_slot (name := Str.ofString "__getitem__") ht.typeIs PyProof.Rows.slot_tuple_getitem
    (wpAny_call_entry PyProof.Rows.slot_tuple_getitem ht.typeIs entry_tuple_getitem ?_ (args_tuple_getitem _ _)))
  show wpAny _ _ (Builtin.Tuple.tupleItemsOf (.ref t) >>= _) _ _ s
  refine wpAny_bind (tupleItemsOf_ ht ?_)
  refine wpAny_bind (wpAny_typeOf hTs ?_)
  rw [if_pos (by decide)]
  refine wpAny_bind (sliceApplied_gen hs pl pu ?_)
  have hno : ¬ ((((sIx items.size 0 lo : Nat) : Int) == 0 && (1 : Int) == 1 && (sIx items.size items.size hi - sIx items.size 0 lo) == items.size) = true) := by
    intro q
    rw [Bool.and_eq_true, Bool.and_eq_true] at q
    have q1 : ((sIx items.size 0 lo : Nat) : Int) = 0 := eq_of_beq q.1.1
    have q2 : sIx items.size items.size hi - sIx items.size 0 lo = items.size := eq_of_beq q.2
    exact hw ⟨by omega, by omega⟩
  show wpAny _ _ (if (((sIx items.size 0 lo : Nat) : Int) == 0 && (1 : Int) == 1 && (sIx items.size items.size hi - sIx items.size 0 lo) == items.size) = true then _ else _) _ _ s
  rw [if_neg hno, pick_gen]
  first
    | exact wpAny_bind (m := Builtin.Tuple.tupleExact _) (wpAny_newObj_type (wpAny_pure ⟨_, rfl, wpAny_pure h⟩) htake)
    | exact wpAny_bind (m := Builtin.Tuple.tupleExact _) (wpAny_newObj_type (wpAny_bind (wpAny_pure (wpAny_pure ⟨_, rfl, wpAny_pure h⟩))) htake)
    | exact wpAny_bind (wpAny_bind (m := Builtin.Tuple.tupleExact _) (wpAny_newObj_type (wpAny_pure (wpAny_pure ⟨_, rfl, wpAny_pure h⟩)) htake))
    | exact wpAny_bind (wpAny_bind (m := Builtin.Tuple.tupleExact _) (wpAny_newObj_type (wpAny_pure ⟨_, rfl, wpAny_pure h⟩) htake))
end
end HT

namespace L2
open PySem PySem.Spec PyProof.Rows

/-! ### the parts of a slice -/
abbrev TO := St → Hp → (Option Int → Hp → Prop) → Prop
/-- a slice's part (left out, or an int) -/
def PO (X : Cx) (e : Option Expr) (t : TO) : Prop :=
  ∀ (pins : List (Addr × Obj)) (s : Shared) (σ : St) (H : Hp) (Q : Option Int → Hp → Prop), Inv X pins σ H s → t σ H Q →
    wpAny (model X.prog X.w) X.A (evalPart e X.env) (fun u s' => ∃ o H', Inv X pins σ H' s' ∧ IsPart u o ∧ Q o H') X.xe s
def tNoPart : TO := fun _ H Q => Q none H
def tPart (t : TE) : TO := fun σ H Q => t σ H fun x H1 => ∃ i, x = .int i ∧ Q (some i) H1

theorem intsAre_of {ns : List Int} : ∀ {us : List Value}, Vals (ns.map V.int) us → IntsAre us ns := by
  induction ns with
  | nil => intro us r; rw [List.map_nil] at r; cases r; exact .nil
  | cons n ns ih =>
    intro us r
    rw [List.map_cons] at r
    cases r with
    | cons r1 r2 =>
      obtain ⟨t, e⟩ := r1
      subst e
      exact .cons n t (ih r2)

section
variable {X : Cx} {e : Expr} {te : TE} {lo hi : Option Expr} {tl th : TO} {pos p2 : Pos}

theorem po_none : PO X none tNoPart := by
  intro pins s σ H Q I h
  rw [evalPart_none]
  exact wpAny_pure ⟨none, H, I, .none, h⟩
theorem po_some (h : PE X e te) : PO X (some e) (tPart te) := by
  intro pins s σ H Q I hw
  rw [evalPart_some]
  refine thn (h pins s σ H _ I hw) fun u s1 ⟨x, H1, I1, r1, q1⟩ => ?_
  obtain ⟨i, rfl, q⟩ := q1
  obtain ⟨t, rfl⟩ := r1
  exact ⟨some i, H1, I1, .int i t, q⟩

/-- what a slice of a value is, by values: the slice object stands at sl -/
def SlR (X : Cx) (r : V → Option Int → Option Int → Hp → VK → Prop) : Prop :=
  ∀ (pins : List (Addr × Obj)) (s : Shared) (σ : St) (H : Hp) (x : V) (v vl vu : Value) (lo hi : Option Int) (sl : Addr) (Q : VK), Inv X pins σ H s → RelV x v → s.heap.IsSliceOf sl vl vu .none → IsPart vl lo → IsPart vu hi → r x lo hi H Q →
    ∃ T id, typeLookup (.type T) "__getitem__" = pure (some (.builtin id)) ∧ s.TypeIs v T ∧ wpAny (model X.prog X.w) X.A (getItem v (.ref sl)) (EP X pins σ Q) X.xe s
theorem SlR.or {r r' : V → Option Int → Option Int → Hp → VK → Prop} (h : SlR X r) (h' : SlR X r') : SlR X (fun x lo hi H Q => r x lo hi H Q ∨ r' x lo hi H Q) := by
  intro pins s σ H x v vl vu lo hi sl Q I rx hs pl pu q
  rcases q with q | q
  · exact h pins s σ H x v vl vu lo hi sl Q I rx hs pl pu q
  · exact h' pins s σ H x v vl vu lo hi sl Q I rx hs pl pu q
def tSl (r : V → Option Int → Option Int → Hp → VK → Prop) (te : TE) (tl th : TO) : TE := fun σ H Q => te σ H fun x H1 => tl σ H1 fun l H2 => th σ H2 fun u H3 => r x l u H3 Q
/-- a[lo:hi], any a -/
theorem pe_slice {r : V → Option Int → Option Int → Hp → VK → Prop} (hr : SlR X r) (he : PE X e te) (hl : PO X lo tl) (hu : PO X hi th) : PE X (.Subscript e (.Slice lo hi none p2) pos) (tSl r te tl th) := by
  intro pins s σ H Q I h
  refine Subscript_ (thn (he pins s σ H _ I h) fun v s1 ⟨x, H1, I1, r1, q1⟩ => ?_)
  refine wpAny_Slice (thn (hl pins s1 σ H1 _ I1 q1) fun vl s2 ⟨l, H2, I2, pl, q2⟩ => thn (hu pins s2 σ H2 _ I2 q2) fun vu s3 ⟨u, H3, I3, pu, q3⟩ => ?_)
  rw [evalPart_none]
  refine wpAny_pure ?_
  have I4 : Inv X pins σ H3 { s3 with heap := s3.heap.push { cls := .type "slice", data := .fields #[vl, vu, .none] } } := I3.kept (t' := s3.toks) fun b ob q => Heap.get?_push_of_some _ q
  obtain ⟨T, id, hT, ht, hg⟩ := hr pins { s3 with heap := s3.heap.push { cls := .type "slice", data := .fields #[vl, vu, .none] } } σ H3 x v vl vu l u s3.heap.objs.size Q I4 r1 (Heap.IsSliceOf.new ..) pl pu q3
  show wpAny (model X.prog X.w) X.A (subscriptTail e (.Slice lo hi none p2) v (.ref s3.heap.objs.size)) (EP X pins σ Q) X.xe { s3 with heap := s3.heap.push { cls := .type "slice", data := .fields #[vl, vu, .none] } }
  exact tail_any (ops := [.ref s3.heap.objs.size, v]) ht hT hg (by with_unfolding_all rfl)

/-- the items of xs[lo:hi] -/
def cutV (xs : List V) (lo hi : Option Int) : List V := (xs.drop (HT.sIx xs.length 0 lo)).take (HT.sIx xs.length xs.length hi - HT.sIx xs.length 0 lo)
theorem cutV_length (xs : List V) (lo hi : Option Int) : (cutV xs lo hi).length ≤ xs.length := by
  unfold cutV
  rw [List.length_take, List.length_drop]
  omega
/-- t[lo:hi], not the whole of it (the whole would be t itself) -/
def rSlT (K : PySem.W.Frag) : V → Option Int → Option Int → Hp → VK → Prop := fun x lo hi H Q => ∃ a xs, x = .ref a ∧ SqT K H a xs ∧
  ¬ (HT.sIx xs.length 0 lo = 0 ∧ HT.sIx xs.length xs.length hi = xs.length) ∧ ∀ p, H p = none → Q (.ref p) (upd H p (.tup (cutV xs lo hi)))
theorem sl_tup : SlR X (rSlT X.K) := by
  intro pins s σ H x v vl vu lo hi sl Q I rx hs pl pu h
  obtain ⟨a, xs, rfl, hx, hw, q⟩ := h
  cases rx
  obtain ⟨its, r, ht, hz⟩ := I.tuple hx
  have hlen : its.toArray.size = xs.length := by rw [List.size_toArray]; exact r.length.symm
  refine ⟨"tuple", _, PyProof.Rows.slot_tuple_getitem.lookup, ht.typeIs, ?_⟩
  refine HT.getItem_tuple_cut ht hs pl pu (by rw [hlen]; exact hw) ?_ (by rw [hlen]; exact hz)
  rw [hlen]
  refine ⟨.ref s.heap.objs.size, _, I.laid (t' := s.toks) (o := .tup (cutV xs lo hi)) (fun b ob q => Heap.get?_push_of_some _ q) (Nat.le_refl _) ?_, rfl, q _ (I.hok.fresh (Nat.le_refl _))⟩
  exact ⟨Nat.le_trans (cutV_length xs lo hi) hz, _, (r.drop (HT.sIx xs.length 0 lo)).take (HT.sIx xs.length xs.length hi - HT.sIx xs.length 0 lo), IsTup.new _ _⟩

/-! ### t < u, t + u -/
def rLtT (K : PySem.W.Frag) : R2 := fun x y H Q => ∃ a b ns ms, x = .ref a ∧ y = .ref b ∧ SqT K H a (ns.map V.int) ∧ SqT K H b (ms.map V.int) ∧ Q (.bl (HT.lexLt ns ms)) H
theorem op_ltT (hu : X.A.units < cLine) : OpR X (compareOp .Lt) (rLtT X.K) := by
  intro pins s σ H x y v u Q I rx ry h
  obtain ⟨a, b, ns, ms, rfl, rfl, ha, hb, q⟩ := h
  cases rx
  cases ry
  obtain ⟨its, r1, p1, _⟩ := I.tuple ha
  obtain ⟨its2, r2, p2, _⟩ := I.tuple hb
  have i1 : IntsAre its.toArray.toList ns := intsAre_of r1
  have i2 : IntsAre its2.toArray.toList ms := intsAre_of r2
  exact HT.lt_tupInts p1 p2 i1 i2 hu ⟨.bl (HT.lexLt ns ms), H, I, rfl, q⟩
/-- t + u, t not empty: u empty gives t itself -/
def rCatT (K : PySem.W.Frag) : R2 := fun x y H Q => ∃ a b xs ys, x = .ref a ∧ y = .ref b ∧ SqT K H a xs ∧ SqT K H b ys ∧ xs ≠ [] ∧ xs.length + ys.length ≤ sizeLine ∧
  (ys = [] → Q (.ref a) H) ∧ (ys ≠ [] → ∀ p, H p = none → Q (.ref p) (upd H p (.tup (xs ++ ys))))
theorem Vals.nil_iff {xs : List V} {us : List Value} (r : Vals xs us) : us = [] ↔ xs = [] := by
  cases r with
  | nil => simp
  | cons _ _ => simp
theorem op_catT : OpR X (binaryOp .Add) (rCatT X.K) := by
  intro pins s σ H x y v u Q I rx ry h
  obtain ⟨a, b, xs, ys, rfl, rfl, ha, hb, hx, hz, q1, q2⟩ := h
  cases rx
  cases ry
  obtain ⟨its, r1, p1, _⟩ := I.tuple ha
  obtain ⟨its2, r2, p2, _⟩ := I.tuple hb
  refine HT.cat_tup p1 p2 (fun z => hx (r1.nil_iff.mp z)) (fun z => ⟨.ref a, H, I, rfl, q1 (r2.nil_iff.mp z)⟩) (fun z => ?_) (by rw [← r1.length, ← r2.length]; exact hz)
  refine ⟨.ref s.heap.objs.size, _, I.laid (t' := s.toks) (o := .tup (xs ++ ys)) (fun b ob q => Heap.get?_push_of_some _ q) (Nat.le_refl _) ?_, rfl, q2 (fun w => z (r2.nil_iff.mpr w)) _ (I.hok.fresh (Nat.le_refl _))⟩
  exact ⟨by rw [List.length_append]; exact hz, _, r1.append r2, IsTup.new _ _⟩
/-- tuple(t) -/
theorem call_tupleT : CallR X (.type "tuple") (fun xs H Q => ∃ a ys, xs = [.ref a] ∧ SqT X.K H a ys ∧ Q (.ref a) H) := by
  intro pins s σ H xs us Q I r h
  obtain ⟨a, ys, rfl, ha, q⟩ := h
  obtain ⟨u, rfl, ru⟩ := vals1 r
  cases ru
  obtain ⟨its, _, p1, _⟩ := I.tuple ha
  exact call_tuple_same (items := its.toArray) p1 ⟨.ref a, H, I, rfl, q⟩
end
end L2

namespace L2
open PySem PySem.Spec PyProof.Rows

/-! ### places -/
/-- the place that an index of any sign means -/
def ixN (n : Nat) (i : Int) : Option Nat := if 0 ≤ i then (if i < n then some i.toNat else none) else if -(n : Int) ≤ i then some (i + n).toNat else none
def atI {α : Type} (xs : List α) (i : Int) : Option α := (ixN xs.length i).bind fun j => xs[j]?
theorem ixN_seq {n : Nat} {i : Int} {j : Nat} (h : ixN n i = some j) : seqIndex? i n = some j ∧ j < n ∧ -(n : Int) ≤ i ∧ i < n := by
  unfold ixN at h
  by_cases h0 : 0 ≤ i
  · rw [if_pos h0] at h
    by_cases h1 : i < n
    · rw [if_pos h1] at h
      have e : i.toNat = j := Option.some.inj h
      exact ⟨by rw [seqIndex_of h0 h1, e], by omega, by omega, h1⟩
    · rw [if_neg h1] at h; cases h
  · rw [if_neg h0] at h
    by_cases h1 : -(n : Int) ≤ i
    · rw [if_pos h1] at h
      have e : (i + n).toNat = j := Option.some.inj h
      exact ⟨by rw [seqIndex_neg (by omega) h1, e], by omega, h1, by omega⟩
    · rw [if_neg h1] at h; cases h
theorem atI_get {α : Type} {xs : List α} {i : Int} {v : α} (h : atI xs i = some v) : ∃ j, seqIndex? i xs.length = some j ∧ xs[j]? = some v ∧ j < xs.length ∧ -(xs.length : Int) ≤ i ∧ i < xs.length := by
  unfold atI at h
  cases e : ixN xs.length i with
  | none => rw [e] at h; cases h
  | some j =>
    rw [e] at h
    obtain ⟨h1, h2, h3, h4⟩ := ixN_seq e
    exact ⟨j, h1, h, h2, h3, h4⟩
theorem atI_nat {α : Type} {xs : List α} {j : Nat} {v : α} (h : xs[j]? = some v) : atI xs (j : Int) = some v := by
  have hj : j < xs.length := (List.getElem?_eq_some_iff.mp h).1
  have e : ixN xs.length (j : Int) = some j := by
    unfold ixN
    rw [if_pos (by omega), if_pos (by omega)]; simp
  unfold atI; rw [e]; exact h
theorem atI_last {α : Type} (xs : List α) (v : α) : atI (xs ++ [v]) (-1) = some v := by
  have hl : (xs ++ [v]).length = xs.length + 1 := by simp
  have e : ixN (xs ++ [v]).length (-1) = some xs.length := by
    unfold ixN
    rw [hl, if_neg (by decide), if_pos (by omega)]
    congr 1
    omega
  unfold atI
  rw [e]
  show (xs ++ [v])[xs.length]? = some v
  simp

/-! ### what may be subscripted -/
/-- what stands as an index of a plain subscript -/
def PlainIx (b : Expr) : Prop := ∀ o i, subscripted b false o i = operate [o, i] (getItem o i)
/-- a subscript by values -/
def IxR (X : Cx) (r : R2) : Prop :=
  ∀ (value slice : Expr) (pins : List (Addr × Obj)) (s : Shared) (σ : St) (H : Hp) (x y : V) (v u : Value) (Q : VK), Inv X pins σ H s → RelV x v → RelV y u → r x y H Q →
    subscripted slice false v u = operate [v, u] (getItem v u) → wpAny (model X.prog X.w) X.A (subscriptTail value slice v u) (EP X pins σ Q) X.xe s
/-- a call of a builtin's method by values: the receiver, the arguments -/
def MtR (X : Cx) (id : String) (r : V → List V → Hp → VK → Prop) : Prop :=
  ∀ (pins : List (Addr × Obj)) (s : Shared) (σ : St) (H : Hp) (x : V) (xs : List V) (v : Value) (us : List Value) (Q : VK), Inv X pins σ H s → RelV x v → Vals xs us → r x xs H Q →
    wpAny (model X.prog X.w) X.A (call (.builtin id) (v :: us)) (EP X pins σ Q) X.xe s
section
variable {X : Cx} {a b : Expr} {ta tb : TE} {pos : Pos}
theorem IxR.or {r r' : R2} (h : IxR X r) (h' : IxR X r') : IxR X (fun x y H Q => r x y H Q ∨ r' x y H Q) := by
  intro value slice pins s σ H x y v u Q I rx ry q hs
  rcases q with q | q
  · exact h value slice pins s σ H x y v u Q I rx ry q hs
  · exact h' value slice pins s σ H x y v u Q I rx ry q hs
theorem MtR.or {id : String} {r r' : V → List V → Hp → VK → Prop} (h : MtR X id r) (h' : MtR X id r') : MtR X id (fun x xs H Q => r x xs H Q ∨ r' x xs H Q) := by
  intro pins s σ H x xs v us Q I rx rs q
  rcases q with q | q
  · exact h pins s σ H x xs v us Q I rx rs q
  · exact h' pins s σ H x xs v us Q I rx rs q
/-- a[b] -/
theorem pe_ix {r : R2} (hr : IxR X r) (ha : PE X a ta) (hb : PE X b tb) (hs : PlainIx b) : PE X (.Subscript a b pos) (tOp r ta tb) := by
  intro pins s σ H Q I h
  exact Subscript_ (binT ha hb I h fun v u s2 x y H2 I2 rx ry q => hr a b pins s2 σ H2 x y v u Q I2 rx ry q (hs _ _))

def rIxL (K : PySem.W.Frag) : R2 := fun x y H Q => ∃ p xs i v, x = .ref p ∧ y = .int i ∧ SqL K H p xs ∧ atI xs i = some v ∧ Q v H
def rIxT (K : PySem.W.Frag) : R2 := fun x y H Q => ∃ p xs i v, x = .ref p ∧ y = .int i ∧ SqT K H p xs ∧ atI xs i = some v ∧ Q v H
def rIxS : R2 := fun x y H Q => ∃ z i c, x = .str z ∧ y = .int i ∧ z.length ≤ sizeLine ∧ atI z.cps.toList i = some c ∧ Q (.str ⟨#[c]⟩) H
theorem ix_list : IxR X (rIxL X.K) := by
  intro value slice pins s σ H x y v u Q I rx ry h hs
  obtain ⟨p, xs, i, z, rfl, rfl, hq, he, q⟩ := h
  cases rx
  obtain ⟨t, rfl⟩ := ry
  obtain ⟨its, r, pl, hz⟩ := I.list hq
  obtain ⟨j, h1, h2, h3, h4, h5⟩ := atI_get he
  obtain ⟨w, ew, rw'⟩ := r.get h2
  have hl := r.length
  have hn := line63
  have fin : EP X pins σ Q w s := ⟨z, H, I, rw', q⟩
  by_cases h0 : 0 ≤ i
  · have hj : i.toNat = j := by
      rw [seqIndex_of h0 h5] at h1
      exact Option.some.inj h1
    exact item_listR pl.isList h0 (by omega) (by rw [hj]; simpa using ew) fin hs
  · have hj : (i + (its.toArray.size : Int)).toNat = j := by
      rw [seqIndex_neg (by omega) h4] at h1
      rw [List.size_toArray, ← hl]
      exact Option.some.inj h1
    exact subscriptTail_builtinR (x := w) pl.isList.typeIs slot_list_getitem.lookup
      (wpAny_getItem_list_neg (Q := fun r s' => r = w ∧ EP X pins σ Q r s') pl.isList (by omega) (by rw [List.size_toArray] <;> omega) (by omega) (by rw [hj]; simpa using ew) ⟨rfl, fin⟩) hs
theorem ix_tup : IxR X (rIxT X.K) := by
  intro value slice pins s σ H x y v u Q I rx ry h hs
  obtain ⟨p, xs, i, z, rfl, rfl, hq, he, q⟩ := h
  cases rx
  obtain ⟨t, rfl⟩ := ry
  obtain ⟨its, r, pl, hz⟩ := I.tuple hq
  obtain ⟨j, h1, h2, h3, h4, h5⟩ := atI_get he
  obtain ⟨w, ew, rw'⟩ := r.get h2
  have hl := r.length
  have hn := line63
  have fin : EP X pins σ Q w s := ⟨z, H, I, rw', q⟩
  exact subscriptTail_builtinR (x := w) pl.typeIs slot_tuple_getitem.lookup
    (getItem_tuple (j := j) (Q := fun r s' => r = w ∧ EP X pins σ Q r s') pl (by omega) (by omega) (by rw [List.size_toArray, ← hl]; exact h1) (by simpa using ew) ⟨rfl, fin⟩) hs
theorem ix_str : IxR X rIxS := by
  intro value slice pins s σ H x y v u Q I rx ry h hs
  obtain ⟨z, i, c, rfl, rfl, hz, he, q⟩ := h
  obtain ⟨t, rfl⟩ := rx
  obtain ⟨t', rfl⟩ := ry
  obtain ⟨j, h1, h2, h3, h4, h5⟩ := atI_get he
  have hl : z.cps.toList.length = z.length := by simp [Str.length]
  rw [hl] at h1 h4 h5
  have hn := line63
  exact tail_any (typeIs_str s z t) slot_str_getitem.lookup (getItem_str (c := c) (by
    have e1 : decide (i < -(2 ^ 63 : Int)) = false := decide_eq_false (by omega)
    have e2 : decide (i ≥ 2 ^ 63) = false := decide_eq_false (by omega)
    rw [e1, e2, Bool.or_false]) (by rw [h1]; simpa using h2) ⟨.str ⟨#[c]⟩, H, I.tok _, ⟨_, rfl⟩, q⟩) hs
/-- list, tuple or str -/
def rIx (K : PySem.W.Frag) : R2 := fun x y H Q => rIxL K x y H Q ∨ rIxT K x y H Q ∨ rIxS x y H Q
theorem ix_seq : IxR X (rIx X.K) := ix_list.or (ix_tup.or ix_str)

/-! ### xs[i] = v, any sign -/
/-- the list's object behind a store -/
theorem mapSeq_set (its : List Value) (n j : Nat) (u : Value) : Obj.mapSeq (·.setIfInBounds j u) { cls := .type "list", data := .seq its.toArray n } = { cls := .type "list", data := .seq (its.set j u).toArray n } := by
  simp [Obj.mapSeq]
theorem Inv.lst {pins : List (Addr × Obj)} {σ : St} {H : Hp} {s : Shared} {p : Addr} {xs : List V} (I : Inv X pins σ H s) (h : H p = some (.lst xs)) :
    ∃ (its : List Value) (n : Nat), Vals xs its ∧ s.heap.get? p = some { cls := .type "list", data := .seq its.toArray n } ∧ xs.length ≤ sizeLine := by
  obtain ⟨z, its, n, r, e⟩ := I.hok p _ h
  exact ⟨its, n, r, e, z⟩
/-- the list at p is written by an update of its object -/
theorem Inv.lstUpd {pins : List (Addr × Obj)} {σ : St} {H : Hp} {s : Shared} {p : Addr} {xs ys : List V} {its its' : List Value} {n n' : Nat} {f : Obj → Obj} (I : Inv X pins σ H s) (h : H p = some (.lst xs))
    (ho : s.heap.get? p = some { cls := .type "list", data := .seq its.toArray n }) (hf : f { cls := .type "list", data := .seq its.toArray n } = { cls := .type "list", data := .seq its'.toArray n' }) (r : Vals ys its') (hz : ys.length ≤ sizeLine) (t : Nat) :
    Inv X pins σ (upd H p (.lst ys)) { s with heap := s.heap.update p f, toks := t } := by
  have e : (s.heap.update p f).get? p = some { cls := .type "list", data := .seq its'.toArray n' } := by
    rw [Heap.get?_update_self f ho (by rw [hf] <;> rfl), hf]
  refine I.write (x := p) (e := p) (by rw [h]; trivial) (.inl rfl) (fun b u hb q => (Heap.get?_update_other _ _ (Ne.symm hb)).trans q) ⟨_, e⟩ ?_
  exact ⟨hz, its', n', r, e⟩
def rSetL : V → V → V → Hp → (Hp → Prop) → Prop := fun o i v H Q => ∃ p xs k j, o = .ref p ∧ i = .int k ∧ H p = some (.lst xs) ∧ ixN xs.length k = some j ∧ Q (upd H p (.lst (xs.set j v)))
theorem set_list : PSet X rSetL := by
  intro pins s σ H o i v ov iv u Q I ro ri rv h
  obtain ⟨p, xs, k, j, rfl, rfl, hp, hj, q⟩ := h
  cases ro
  obtain ⟨t, rfl⟩ := ri
  obtain ⟨its, n, r, ho, hz⟩ := I.lst hp
  obtain ⟨h1, h2, h3, h4⟩ := ixN_seq hj
  have hl := r.length
  have hn := line63
  have I' : Inv X pins σ (upd H p (.lst (xs.set j v))) { s with heap := s.heap.update p (Obj.mapSeq (·.setIfInBounds j u)) } :=
    I.lstUpd hp ho (mapSeq_set its n j u) (r.set rv j) (by rw [List.length_set]; exact hz) s.toks
  by_cases h0 : 0 ≤ k
  · have hk : k.toNat = j := by
      rw [seqIndex_of h0 h4] at h1
      exact Option.some.inj h1
    exact PySem.W.ki_setAt ho h0 (by omega) (by rw [List.size_toArray, ← hl]; exact h4) (by rw [hk]; exact ⟨_, I', q⟩)
  · have hk : (k + (its.toArray.size : Int)).toNat = j := by
      rw [seqIndex_neg (by omega) h3] at h1
      rw [List.size_toArray, ← hl]
      exact Option.some.inj h1
    exact PySem.W.ki_setBack ho (by omega) (by rw [List.size_toArray, ← hl]; exact h3) (by omega) (by rw [hk]; exact ⟨_, I', q⟩)

/-! ### slices -/
theorem slice_bounds (lo hi : Option Int) (n : Nat) : (sliceBounds lo hi none n).1 = ((HT.sIx n 0 lo : Nat) : Int) ∧ (sliceBounds lo hi none n).2.1 = ((HT.sIx n n hi : Nat) : Int) ∧ (sliceBounds lo hi none n).2.2 = 1 := by
  refine ⟨?_, ?_, rfl⟩
  · cases lo with
    | none => simp [sliceBounds, HT.sIx]
    | some i =>
      simp only [sliceBounds, HT.sIx, Option.getD_none, show (1 : Int) > 0 by decide, if_true]
      by_cases h : i < 0
      · simp only [h, if_true] <;> omega
      · simp only [h, if_false] <;> omega
  · cases hi with
    | none => simp [sliceBounds, HT.sIx]
    | some i =>
      simp only [sliceBounds, HT.sIx, Option.getD_none, show (1 : Int) > 0 by decide, if_true]
      by_cases h : i < 0
      · simp only [h, if_true] <;> omega
      · simp only [h, if_false] <;> omega
theorem slicePick_cut (its : List Value) (lo hi : Option Int) : slicePick its.toArray lo hi none = ((its.drop (HT.sIx its.length 0 lo)).take (HT.sIx its.length its.length hi - HT.sIx its.length 0 lo)).toArray := by
  obtain ⟨h1, h2, h3⟩ := slice_bounds lo hi its.toArray.size
  unfold slicePick
  rw [h1, h2, h3]
  simp only [sliceRange_one, pick_run, List.size_toArray] <;> rfl
/-- xs[lo:hi] of a list: a new list -/
def rSlL (K : PySem.W.Frag) : V → Option Int → Option Int → Hp → VK → Prop := fun x lo hi H Q => ∃ a xs, x = .ref a ∧ SqL K H a xs ∧ ∀ p, H p = none → Q (.ref p) (upd H p (.lst (cutV xs lo hi)))
theorem sl_list : SlR X (rSlL X.K) := by
  intro pins s σ H x v vl vu lo hi sl Q I rx hs pl pu h
  obtain ⟨a, xs, rfl, hx, q⟩ := h
  cases rx
  obtain ⟨its, r, ht, hz⟩ := I.list hx
  have hlen := r.length
  refine ⟨"list", _, slot_list_getitem.lookup, ht.isList.typeIs, ?_⟩
  refine wpAny_getItem_list_slice ht.isList hs pl pu .none (by simp) ?_ (by rw [List.size_toArray] <;> omega)
  rw [slicePick_cut, ← hlen]
  refine ⟨.ref s.heap.objs.size, _, I.laid (t' := s.toks) (o := .lst (cutV xs lo hi)) (fun b ob q => Heap.get?_push_of_some _ q) (Nat.le_refl _) ?_, rfl, q _ (I.hok.fresh (Nat.le_refl _))⟩
  exact ⟨Nat.le_trans (cutV_length xs lo hi) hz, _, 0, (r.drop (HT.sIx xs.length 0 lo)).take (HT.sIx xs.length xs.length hi - HT.sIx xs.length 0 lo), Heap.get?_push_size _ rfl⟩

/-! ### in, not in: flat items -/
def flatV : V → Bool
  | .non => true
  | .bl _ => true
  | .int _ => true
  | .str _ => true
  | _ => false
/-- == of flat values -/
def eqV : V → V → Bool
  | .non, .non => true
  | .bl a, .bl b => a == b
  | .bl a, .int b => (if a then 1 else 0) == b
  | .int a, .bl b => a == (if b then 1 else 0)
  | .int a, .int b => a == b
  | .str a, .str b => a == b
  | _, _ => false
theorem eqAt_V {A : Around} {s : Shared} {y x : V} {u v : Value} (ry : RelV y u) (rx : RelV x v) (fy : flatV y = true) (fx : flatV x = true) : SeqAt.EqAt A s u v (eqV y x) := by
  cases y with
  | non =>
    cases ry
    cases x with
    | non => cases rx; exact SeqAt.EqAt.same _
    | bl b => cases rx; exact SeqAt.EqAt.none_bool b
    | int b => obtain ⟨t, rfl⟩ := rx; exact SeqAt.EqAt.none_int b t
    | str b => obtain ⟨t, rfl⟩ := rx; exact SeqAt.EqAt.none_str b t
    | _ => exact absurd (show false = true from fx) Bool.false_ne_true
  | bl a =>
    cases ry
    cases x with
    | non => cases rx; exact SeqAt.EqAt.bool_none a
    | bl b => cases rx; exact SeqAt.EqAt.bool_bool a b
    | int b => obtain ⟨t, rfl⟩ := rx; exact SeqAt.EqAt.bool_int a b t
    | str b => obtain ⟨t, rfl⟩ := rx; exact SeqAt.EqAt.bool_str a b t
    | _ => exact absurd (show false = true from fx) Bool.false_ne_true
  | int a =>
    obtain ⟨t', rfl⟩ := ry
    cases x with
    | non => cases rx; exact SeqAt.EqAt.int_none a t'
    | bl b => cases rx; exact SeqAt.EqAt.int_bool a t' b
    | int b => obtain ⟨t, rfl⟩ := rx; exact SeqAt.EqAt.int_int a t' b t
    | str b => obtain ⟨t, rfl⟩ := rx; exact SeqAt.EqAt.int_str a t' b t
    | _ => exact absurd (show false = true from fx) Bool.false_ne_true
  | str a =>
    obtain ⟨t', rfl⟩ := ry
    cases x with
    | non => cases rx; exact SeqAt.EqAt.str_none a t'
    | bl b => cases rx; exact SeqAt.EqAt.str_bool a t' b
    | int b => obtain ⟨t, rfl⟩ := rx; exact SeqAt.EqAt.str_int a t' b t
    | str b => obtain ⟨t, rfl⟩ := rx; exact SeqAt.EqAt.str_str a t' b t
    | _ => exact absurd (show false = true from fx) Bool.false_ne_true
  | _ => exact absurd (show false = true from fy) Bool.false_ne_true
/-- the items' answers, read off the values (a value's own answer does not lean on its token) -/
def eqU (x : V) (u : Value) : Bool := match u with
  | .none => eqV .non x
  | .bool b => eqV (.bl b) x
  | .int i _ => eqV (.int i) x
  | .str z _ => eqV (.str z) x
  | _ => false
theorem eqU_of {x y : V} {u : Value} (r : RelV y u) (f : flatV y = true) : eqU x u = eqV y x := by
  cases y with
  | non => cases r; rfl
  | bl b => cases r; rfl
  | int i => obtain ⟨t, rfl⟩ := r; rfl
  | str z => obtain ⟨t, rfl⟩ := r; rfl
  | _ => exact absurd (show false = true from f) Bool.false_ne_true
theorem any_eqU {x : V} : ∀ {xs : List V} {us : List Value}, Vals xs us → xs.all flatV = true → us.any (eqU x) = xs.any fun y => eqV y x
  | _, _, .nil, _ => rfl
  | y :: xs, u :: us, .cons r t, f => by
    rw [List.all_cons, Bool.and_eq_true] at f
    rw [List.any_cons, List.any_cons, eqU_of r f.1, any_eqU t f.2]
theorem mem_eqAt {A : Around} {s : Shared} {x : V} {v : Value} (rx : RelV x v) (fx : flatV x = true) : ∀ {xs : List V} {us : List Value}, Vals xs us → xs.all flatV = true → ∀ u ∈ us, SeqAt.EqAt A s u v (eqU x u)
  | _, _, .nil, _ => fun u hu => by cases hu
  | y :: xs, u :: us, .cons r t, f => fun u' hu => by
    rw [List.all_cons, Bool.and_eq_true] at f
    rcases List.mem_cons.mp hu with rfl | hu
    · rw [eqU_of r f.1]; exact eqAt_V r rx f.1 fx
    · exact mem_eqAt rx fx t f.2 u' hu
def inV (x : V) (xs : List V) : Bool := xs.any fun y => eqV y x
/-- x in a list or tuple of flat items -/
def rIn (K : PySem.W.Frag) (neg : Bool) : R2 := fun x y H Q => ∃ p xs, y = .ref p ∧ (SqL K H p xs ∨ SqT K H p xs) ∧ flatV x = true ∧ xs.all flatV = true ∧ Q (.bl (if neg then !inV x xs else inV x xs)) H
theorem op_in_seq : OpR X (compareOp .In) (rIn X.K false) := by
  intro pins s σ H x y v u Q I rx ry h
  obtain ⟨p, xs, rfl, hq, fx, fs, q⟩ := h
  cases ry
  rcases hq with hq | hq
  · obtain ⟨its, r, pl, hz⟩ := I.list hq
    refine SeqAt.in_listAt (eqU x) pl.isList (fun w hw => mem_eqAt rx fx r fs w (by simpa using hw)) ⟨.bl _, H, I, rfl, ?_⟩
    rw [show its.toArray.any (eqU x) = its.any (eqU x) by simp, any_eqU r fs]
    exact q
  · obtain ⟨its, r, pl, hz⟩ := I.tuple hq
    refine SeqAt.in_tupleAt (eqU x) pl (fun w hw => mem_eqAt rx fx r fs w (by simpa using hw)) ⟨.bl _, H, I, rfl, ?_⟩
    rw [show its.toArray.any (eqU x) = its.any (eqU x) by simp, any_eqU r fs]
    exact q
theorem op_notIn_seq : OpR X (compareOp .NotIn) (rIn X.K true) := by
  intro pins s σ H x y v u Q I rx ry h
  obtain ⟨p, xs, rfl, hq, fx, fs, q⟩ := h
  cases ry
  rcases hq with hq | hq
  · obtain ⟨its, r, pl, hz⟩ := I.list hq
    refine SeqAt.notIn_listAt (eqU x) pl.isList (fun w hw => mem_eqAt rx fx r fs w (by simpa using hw)) ⟨.bl _, H, I, rfl, ?_⟩
    rw [show its.toArray.any (eqU x) = its.any (eqU x) by simp, any_eqU r fs]
    exact q
  · obtain ⟨its, r, pl, hz⟩ := I.tuple hq
    refine SeqAt.notIn_tupleAt (eqU x) pl (fun w hw => mem_eqAt rx fx r fs w (by simpa using hw)) ⟨.bl _, H, I, rfl, ?_⟩
    rw [show its.toArray.any (eqU x) = its.any (eqU x) by simp, any_eqU r fs]
    exact q
theorem op_notIn_str : OpR X (compareOp .NotIn) (fun x y H Q => ∃ i j, x = .str i ∧ y = .str j ∧ Q (.bl (!(!(Builtin.Str.occurrences j i 0 j.length 1).isEmpty))) H) := by
  intro pins s σ H x y v u Q I rx ry h
  obtain ⟨i, j, rfl, rfl, q⟩ := h
  obtain ⟨t, rfl⟩ := rx
  obtain ⟨t', rfl⟩ := ry
  exact notIn_str ⟨.bl _, H, I, rfl, q⟩

/-! ### len, list(x), tuple(x) of any list or tuple that is read -/
theorem call_len_seq : CallR X (.builtin "len") (fun xs H Q => ∃ p ys, xs = [.ref p] ∧ (SqL X.K H p ys ∨ SqT X.K H p ys) ∧ Q (.int ys.length) H) := by
  intro pins s σ H xs us Q I r h
  obtain ⟨p, ys, rfl, hq, q⟩ := h
  obtain ⟨u, rfl, rx⟩ := vals1 r
  cases rx
  have hn := line63
  rcases hq with hq | hq
  · obtain ⟨its, r', pl, hz⟩ := I.list hq
    have hlen := r'.length
    exact Calls.call_len_list pl.isList (by simp only [List.size_toArray] <;> omega) ⟨.int ys.length, H, I.tok _, ⟨s.toks + 1, by rw [List.size_toArray, hlen]⟩, q⟩
  · obtain ⟨its, r', pl, hz⟩ := I.tuple hq
    have hlen := r'.length
    exact len_tuple pl (by simp only [List.size_toArray] <;> omega) ⟨.int ys.length, H, I.tok _, ⟨s.toks + 1, by rw [List.size_toArray, hlen]⟩, q⟩
theorem call_len_str : CallR X (.builtin "len") (fun xs H Q => ∃ z, xs = [.str z] ∧ z.length ≤ sizeLine ∧ Q (.int z.length) H) := by
  intro pins s σ H xs us Q I r h
  obtain ⟨z, rfl, hz, q⟩ := h
  obtain ⟨u, rfl, t, rfl⟩ := vals1 r
  have hn := line63
  exact len_str (by omega) ⟨.int z.length, H, I.tok _, ⟨_, rfl⟩, q⟩
theorem CallR.or {f : Value} {r r' : List V → Hp → VK → Prop} (h : CallR X f r) (h' : CallR X f r') : CallR X f (fun xs H Q => r xs H Q ∨ r' xs H Q) := by
  intro pins s σ H xs us Q I rs q
  rcases q with q | q
  · exact h pins s σ H xs us Q I rs q
  · exact h' pins s σ H xs us Q I rs q
theorem call_list_of : CallR X (.type "list") (fun xs H Q => ∃ p ys, xs = [.ref p] ∧ (SqL X.K H p ys ∨ SqT X.K H p ys) ∧ ∀ l, H l = none → Q (.ref l) (upd H l (.lst ys))) := by
  intro pins s σ H xs us Q I r h
  obtain ⟨p, ys, rfl, hq, q⟩ := h
  obtain ⟨u, rfl, rx⟩ := vals1 r
  cases rx
  have fin : ∀ (its : List Value), Vals ys its → ys.length ≤ sizeLine → ∀ (h' : Heap) (c' : Nat), (∀ b o', s.heap.get? b = some o' → h'.get? b = some o') →
      h'.get? s.heap.objs.size = some { cls := .type "list", dict := none, data := .seq its.toArray c', slots := #[] } → EP X pins σ Q (.ref s.heap.objs.size) { s with heap := h' } := fun its r' hz h' c' kp e =>
    ⟨.ref s.heap.objs.size, _, I.laid (t' := s.toks) kp (Nat.le_refl _) (show ObjOk X.prog X.w _ h' _ (.lst ys) from ⟨hz, its, c', r', e⟩), rfl, q _ (I.hok.fresh (Nat.le_refl _))⟩
  rcases hq with hq | hq
  · obtain ⟨its, r', pl, hz⟩ := I.list hq
    have hlen := r'.length
    obtain ⟨o, ho, hc, n, hd⟩ := pl.isList
    exact call_list_seq p (.inl rfl) ho hc hd (fun h' c' kp e => fin its r' hz h' c' kp e) (by simp only [List.size_toArray] <;> omega)
  · obtain ⟨its, r', pl, hz⟩ := I.tuple hq
    have hlen := r'.length
    obtain ⟨o, ho, hc, n, hd⟩ := pl
    exact call_list_seq p (.inr rfl) ho hc hd (fun h' c' kp e => fin its r' hz h' c' kp e) (by simp only [List.size_toArray] <;> omega)
theorem call_tuple_of : CallR X (.type "tuple") (fun xs H Q => ∃ p ys, xs = [.ref p] ∧ ((SqL X.K H p ys ∧ ∀ l, H l = none → Q (.ref l) (upd H l (.tup ys))) ∨ (SqT X.K H p ys ∧ Q (.ref p) H))) := by
  intro pins s σ H xs us Q I r h
  obtain ⟨p, ys, rfl, h⟩ := h
  obtain ⟨u, rfl, rx⟩ := vals1 r
  cases rx
  rcases h with ⟨hq, q⟩ | ⟨hq, q⟩
  · obtain ⟨its, r', pl, hz⟩ := I.list hq
    have hlen := r'.length
    refine call_tuple_list pl.isList (fun h' kp => ?_) (by simp only [List.size_toArray] <;> omega)
    have I1 : Inv X pins σ H { s with heap := h' } := I.kept (t' := s.toks) kp
    have I2 : Inv X pins σ (upd H h'.objs.size (.tup ys)) { s with heap := h'.push { cls := .type "tuple", data := .seq its.toArray } } :=
      I1.laid (t' := s.toks) (fun b o e => Heap.get?_push_of_some _ e) (Nat.le_refl _) (show ObjOk X.prog X.w _ _ _ (.tup ys) from ⟨hz, its, r', IsTup.new _ _⟩)
    exact ⟨.ref h'.objs.size, _, I2, rfl, q _ (I1.hok.fresh (Nat.le_refl _))⟩
  · obtain ⟨its, r', pl, hz⟩ := I.tuple hq
    exact call_tuple_same pl ⟨.ref p, H, I, rfl, q⟩

/-! ### the call of a builtin's method: o.m(..) -/
/-- the value is of that builtin type -/
def tyV (K : PySem.W.Frag) (T : String) (x : V) (H : Hp) : Prop := match x with
  | .str _ => T = "str"
  | .int _ => T = "int"
  | .ref p => (T = "list" ∧ ∃ xs, SqL K H p xs) ∨ (T = "tuple" ∧ ∃ o, K.lookup p = some o ∧ o.cls = .type "tuple" ∧ o.dict = none) ∨
      (T = "dict" ∧ ((∃ kvs, H p = some (.dK kvs)) ∨ ∃ kvs, H p = some (.dT kvs))) ∨ (T = "set" ∧ ∃ S n, H p = some (.set S n))
  | _ => False
theorem tyV_is {pins : List (Addr × Obj)} {σ : St} {H : Hp} {s : Shared} {T : String} {x : V} {v : Value} (I : Inv X pins σ H s) (r : RelV x v) (ty : tyV X.K T x H) :
    s.TypeIs v T ∧ ∀ a, v = .ref a → ∃ ob, s.heap.get? a = some ob ∧ ob.dict = none := by
  cases x with
  | str z =>
    obtain ⟨t, rfl⟩ := r
    cases (show T = "str" from ty)
    exact ⟨typeIs_str s z t, fun _ e => nomatch e⟩
  | int i =>
    obtain ⟨t, rfl⟩ := r
    cases (show T = "int" from ty)
    exact ⟨typeIs_int s i t, fun _ e => nomatch e⟩
  | ref p =>
    cases r
    rcases ty with ⟨rfl, xs, hq⟩ | ⟨rfl, o, hk, hc, hd⟩ | ⟨rfl, hk⟩ | ⟨rfl, S, n, hk⟩
    · obtain ⟨its, _, pl, _⟩ := I.list hq
      refine ⟨pl.isList.typeIs, fun a e => ?_⟩
      cases e
      obtain ⟨o, n, e, c, hd, _⟩ := pl
      exact ⟨o, e, hd⟩
    · refine ⟨⟨o, I.kIn p o hk, hc⟩, fun a e => ?_⟩
      cases e
      exact ⟨o, I.kIn _ o hk, hd⟩
    · have z : ∃ o, s.heap.get? p = some o ∧ o.ExactDict := by
        rcases hk with ⟨kvs, hk⟩ | ⟨kvs, hk⟩
        · obtain ⟨_, _, _, _, o, _, _, e, ex, _⟩ := I.hok p _ hk
          exact ⟨o, e, ex⟩
        · obtain ⟨_, _, _, _, o, _, _, e, ex, _⟩ := I.hok p _ hk
          exact ⟨o, e, ex⟩
      obtain ⟨o, e, ex⟩ := z
      refine ⟨⟨o, e, ex.1⟩, fun a e2 => ?_⟩
      cases e2
      exact ⟨o, e, ex.2.1⟩
    · obtain ⟨o, _, _, _, e, ex, _⟩ := I.hok p _ hk
      refine ⟨⟨o, e, ex.1⟩, fun a e2 => ?_⟩
      cases e2
      exact ⟨o, e, ex.2.1⟩
  | _ => exact False.elim ty
def tBM0 (K : PySem.W.Frag) (T : String) (r : V → List V → Hp → VK → Prop) (to : TE) : TE := fun σ H Q => to σ H fun x H1 => tyV K T x H1 ∧ r x [] H1 Q
def tBM (K : PySem.W.Frag) (T : String) (r : V → List V → Hp → VK → Prop) (to : TE) (t : TA) : TE := fun σ H Q => to σ H fun x H1 => tyV K T x H1 ∧ t σ H1 fun xs H2 => r x xs H2 Q
variable {o e : Expr} {es : List Expr} {to : TE} {t : TA} {name : Str} {apos cpos : Pos} {T id : String} {r : V → List V → Hp → VK → Prop}
theorem pe_bm0 (pa : PlainAttrs T) (slot : Slot T name id) (hty : typeOf (.builtin id) = pure (.type "method_descriptor")) (hm : MtR X id r) (ho : PE X o to)
    (hbase : attributeBase o name X.env (eval o X.env) = eval o X.env := by rfl) (hline : (apos.endLine == cpos.line) = true := by rfl) : PE X (.Call (.Attribute o name apos) [] [] cpos) (tBM0 X.K T r to) := by
  intro pins s σ H Q I h
  refine wpAny_Call_method0_late hbase hline (thn (ho pins s σ H _ I h) fun v s1 ⟨x, H1, I1, r1, ty, q1⟩ => ?_)
  obtain ⟨h1, h2⟩ := tyV_is I1 r1 ty
  exact ⟨T, id, pa, slot, hty, h1, h2, Calls.callWith_builtin rfl (PySem.evalArgs_none (hm pins s1 σ H1 x [] v [] Q I1 r1 .nil q1))⟩
theorem pe_bm (pa : PlainAttrs T) (slot : Slot T name id) (hty : typeOf (.builtin id) = pure (.type "method_descriptor")) (hm : MtR X id r) (ho : PE X o to) (ha : PA X (e :: es) t)
    (hbase : attributeBase o name X.env (eval o X.env) = eval o X.env := by rfl)
    (hfew : ((backTo cpos (starEach (e :: es) X.env)).all (fun x => !x.1) && (backToKw cpos (keywordEach [] X.env)).all (fun x => x.1.isSome)
      && decide ((e :: es).length + ([] : List Keyword).length + (if ([] : List Keyword).isEmpty then 0 else 1) < 30)) = true := by rfl)
    (hline : (apos.endLine == cpos.line) = true := by rfl) (hs : starEach (e :: es) X.env = (false, eval e X.env) :: starEach es X.env := by rfl) (hplain : (backTo cpos (starEach es X.env)).any (·.1) = false := by rfl) :
    PE X (.Call (.Attribute o name apos) (e :: es) [] cpos) (tBM X.K T r to t) := by
  intro pins s σ H Q I h
  refine wpAny_Call_method_late hbase hfew hline rfl (thn (ho pins s σ H _ I h) fun v s1 ⟨x, H1, I1, r1, ty, q1⟩ => ?_)
  obtain ⟨h1, h2⟩ := tyV_is I1 r1 ty
  refine ⟨T, id, pa, slot, hty, h1, h2, ?_⟩
  have hA := ha cpos pins s1 σ H1 _ I1 q1
  rw [hs] at hA ⊢
  refine Calls.callWith_builtin (by show (false || (backTo cpos (starEach es X.env)).any (·.1)) = false; rw [hplain] <;> rfl) (Calls.evalArgs_plain ?_)
  exact thn hA fun us s2 ⟨vs, H2, I2, r2, q2⟩ => hm pins s2 σ H2 x vs v us Q I2 r1 r2 q2
/- xs.append(e), list.index on a module's tuple .. are MtR facts of 06m -/
end
end L2

namespace L2
open PySem PySem.Spec PyProof.Rows

def MtM (X : Cx) (id : String) (r : V → List V → Hp → VK → Prop) : Prop :=
  ∀ (pins : List (Addr × Obj)) (s : Shared) (σ : St) (H : Hp) (x : V) (xs : List V) (v : Value) (us : List Value) (Q : VK), Inv X pins σ H s → RelV x v → Vals xs us → r x xs H Q →
    wpAny (model X.prog X.w) X.A (call (.builtin id) (v :: us)) (EP X pins σ Q) X.xe s

/-! ### lists of values -/
theorem Vals.one : ∀ {x : V} {us : List Value}, Vals [x] us → ∃ u, us = [u] ∧ RelV x u
  | _, _, .cons r .nil => ⟨_, rfl, r⟩
theorem Vals.two : ∀ {x y : V} {us : List Value}, Vals [x, y] us → ∃ u v, us = [u, v] ∧ RelV x u ∧ RelV y v
  | _, _, _, .cons r (.cons q .nil) => ⟨_, _, rfl, r, q⟩
theorem Vals.zero : ∀ {us : List Value}, Vals [] us → us = []
  | _, .nil => rfl
theorem Vals.dropLast {xs : List V} {us : List Value} (h : Vals xs us) : Vals xs.dropLast us.dropLast := by
  induction h with
  | nil => exact .nil
  | cons r t ih =>
    cases t with
    | nil => exact .nil
    | cons q t' => exact .cons r ih
theorem Vals.eraseIdx : ∀ {xs : List V} {us : List Value} (i : Nat), Vals xs us → Vals (xs.eraseIdx i) (us.eraseIdx i)
  | _, _, _, .nil => .nil
  | _, _, 0, .cons _ t => t
  | _, _, i + 1, .cons r t => .cons r (Vals.eraseIdx i t)
theorem Vals.reverse {xs : List V} {us : List Value} (h : Vals xs us) : Vals xs.reverse us.reverse := by
  induction h with
  | nil => exact .nil
  | cons r t ih => rw [List.reverse_cons, List.reverse_cons]; exact Vals.append ih (.cons r .nil)
theorem Vals.rep {xs : List V} {us : List Value} (h : Vals xs us) : ∀ k : Nat, Vals (List.replicate k xs).flatten (List.replicate k us).flatten
  | 0 => .nil
  | k + 1 => by
    rw [List.replicate_succ, List.replicate_succ, List.flatten_cons, List.flatten_cons]
    exact Vals.append h (Vals.rep h k)
theorem erase_last {α : Type} (l : List α) : l.eraseIdx (l.length - 1) = l.dropLast := by
  induction l with
  | nil => rfl
  | cons a r ih =>
    cases r with
    | nil => rfl
    | cons b r =>
      have e : (a :: b :: r).length - 1 = ((b :: r).length - 1) + 1 := by
        have h1 : (a :: b :: r).length = r.length + 2 := rfl
        have h2 : (b :: r).length = r.length + 1 := rfl
        omega
      rw [e, List.eraseIdx_cons_succ, ih]
      all_goals rfl
theorem len_erase {α : Type} : ∀ (l : List α) (i : Nat), (l.eraseIdx i).length ≤ l.length
  | [], _ => Nat.le_refl _
  | _ :: _, 0 => Nat.le_succ _
  | _ :: r, i + 1 => Nat.succ_le_succ (len_erase r i)
theorem foldl_rep (its : List Value) : ∀ (k : Nat) (acc : List Value),
    List.foldl (fun x1 x2 => x1 ++ x2) acc.toArray (List.replicate k its.toArray) = (acc ++ (List.replicate k its).flatten).toArray
  | 0, acc => by simp
  | k + 1, acc => by
    have e : acc.toArray ++ its.toArray = (acc ++ its).toArray := by simp
    have e2 : (acc ++ its) ++ (List.replicate k its).flatten = acc ++ (List.replicate (k + 1) its).flatten := by
      rw [List.replicate_succ, List.flatten_cons, List.append_assoc]
    rw [← e2, ← foldl_rep its k (acc ++ its), ← e, List.replicate_succ, List.foldl_cons]

section
variable {X : Cx} {pins : List (Addr × Obj)} {σ : St} {H : Hp} {s : Shared} {l b : Addr} {xs ys zs : List V}

/-! ### the two steps: a tracked list is rewritten, a new list is laid -/
theorem Inv.lset {its its' : List Value} {n : Nat} {f : Array Value → Array Value} {t' : Nat} (I : Inv X pins σ H s) (hH : H l = some (.lst xs))
    (e : s.heap.get? l = some { cls := .type "list", data := .seq its.toArray n }) (hf : f its.toArray = its'.toArray) (hv : Vals ys its') (hz : ys.length ≤ sizeLine) :
    Inv X pins σ (upd H l (.lst ys)) { s with heap := s.heap.update l (Obj.mapSeq f), toks := t' } := by
  have q := PySem.IsL.update e f
  rw [hf] at q
  refine I.write (x := l) (e := l) (by rw [hH]; exact trivial) (.inl rfl) (fun b' u hb hu => (Heap.get?_update_other s.heap (Obj.mapSeq f) (Ne.symm hb)).trans hu) ⟨_, q⟩ ?_
  exact ⟨hz, its', _, hv, q⟩
theorem Inv.lnew {its : List Value} {t' : Nat} (I : Inv X pins σ H s) (hv : Vals ys its) (hz : ys.length ≤ sizeLine) :
    Inv X pins σ (upd H s.heap.objs.size (.lst ys)) { s with heap := s.heap.push { cls := .type "list", data := .seq its.toArray }, toks := t' } :=
  I.laid (fun _ _ q => Heap.get?_push_of_some _ q) (Nat.le_refl _) ⟨hz, its, 0, hv, Heap.get?_push_size _ rfl⟩
theorem Inv.fresh (I : Inv X pins σ H s) : H s.heap.objs.size = none := I.hok.fresh (Nat.le_refl _)
theorem Inv.lstM (I : Inv X pins σ H s) (hH : H l = some (.lst xs)) : xs.length ≤ sizeLine ∧ ∃ (its : List Value) (n : Nat), Vals xs its ∧ xs.length = its.length ∧ s.heap.get? l = some { cls := .type "list", data := .seq its.toArray n } := by
  obtain ⟨z, its, n, r, e⟩ := I.hok l _ hH
  exact ⟨z, its, n, r, r.length, e⟩

theorem notLongL {n : Nat} (h : n ≤ sizeLine) : Builtin.List.listTooLong n = false := by
  unfold Builtin.List.listTooLong
  exact decide_eq_false (by omega)
end

section
variable {X : Cx}

/-! ### methods -/
def rAppend : V → List V → Hp → VK → Prop := fun x vs H Q => ∃ l xs y, x = .ref l ∧ vs = [y] ∧ H l = some (.lst xs) ∧ xs.length < sizeLine ∧ Q .non (upd H l (.lst (xs ++ [y])))
theorem mt_append : MtM X "list.append" rAppend := by
  intro pins s σ H x vs v us Q I rx rv h
  obtain ⟨l, xs, y, rfl, rfl, hH, hz, q⟩ := h
  cases rx
  obtain ⟨u, rfl, ru⟩ := rv.one
  obtain ⟨z, its, n, r, hl, e⟩ := I.lstM hH
  refine call_meets F.slot_list_append ⟨_, e, rfl⟩ F.entry_list_append (F.args_list_append_2 _ _) (PySem.list_append l its.toArray n u (by rw [List.size_toArray]; omega)) ⟨e, ?_⟩
  refine ⟨.non, _, I.lset (its' := its ++ [u]) hH e (by simp) (r.append (.cons ru .nil)) ?_, rfl, q⟩
  rw [List.length_append, List.length_singleton]
  omega

def rExtend : V → List V → Hp → VK → Prop := fun x vs H Q => ∃ l b xs zs, x = .ref l ∧ vs = [.ref b] ∧ H l = some (.lst xs) ∧ H b = some (.lst zs) ∧ xs.length + zs.length ≤ sizeLine ∧ Q .non (upd H l (.lst (xs ++ zs)))
theorem mt_extend : MtM X "list.extend" rExtend := by
  intro pins s σ H x vs v us Q I rx rv h
  obtain ⟨l, b, xs, zs, rfl, rfl, hH, hB, hz, q⟩ := h
  cases rx
  obtain ⟨u, rfl, ru⟩ := rv.one
  cases ru
  obtain ⟨z, its, n, r, hl, e⟩ := I.lstM hH
  obtain ⟨z2, its2, n2, r2, hl2, e2⟩ := I.lstM hB
  have hsz : its.toArray.size + its2.toArray.size ≤ sizeLine := by rw [List.size_toArray, List.size_toArray]; omega
  have hlong : ¬ (!its.toArray.isEmpty && Builtin.List.listTooLong (its.toArray.size + its2.toArray.size)) = true := by
    rw [notLongL hsz, Bool.and_false]
    exact Bool.false_ne_true
  refine call_meets F.slot_list_extend ⟨_, e, rfl⟩ F.entry_list_extend (F.args_list_extend_2 _ _)
    (AutoSeq1.list_extend_list_list_0 l its.toArray n b its2.toArray n2 hlong (by rw [List.size_toArray]; omega) (by omega)) ⟨e, e2, ?_⟩
  refine ⟨.non, _, I.lset (its' := its ++ its2) hH e (by simp) (r.append r2) ?_, rfl, q⟩
  rw [List.length_append]
  omega

def rPop : V → List V → Hp → VK → Prop := fun x vs H Q => ∃ l xs y, x = .ref l ∧ vs = [] ∧ H l = some (.lst xs) ∧ xs[xs.length - 1]? = some y ∧ Q y (upd H l (.lst xs.dropLast))
theorem mt_pop : MtM X "list.pop" rPop := by
  intro pins s σ H x vs v us Q I rx rv h
  obtain ⟨l, xs, y, rfl, rfl, hH, hy, q⟩ := h
  cases rx
  have hus := rv.zero
  subst hus
  obtain ⟨z, its, n, r, hl, e⟩ := I.lstM hH
  obtain ⟨u, hu, ru⟩ := r.get hy
  have hy' : its.toArray[its.toArray.size - 1]? = some u := by
    show its.toArray[its.length - 1]? = some u
    rw [← Array.getElem?_toList, ← hl]
    exact hu
  refine call_meets F.slot_list_pop ⟨_, e, rfl⟩ F.entry_list_pop (F.args_list_pop_1 _) (MeetsSeq.list_pop_last l its.toArray n u hy' (by rw [List.size_toArray]; omega)) ⟨e, ?_⟩
  refine ⟨y, _, I.lset (its' := its.dropLast) hH e ?_ r.dropLast ?_, ru, q⟩
  · show its.toArray.eraseIdxIfInBounds (its.toArray.size - 1) = its.dropLast.toArray
    rw [List.size_toArray, List.eraseIdxIfInBounds_toArray, erase_last]
  · rw [List.length_dropLast]
    omega

def rPopAt : V → List V → Hp → VK → Prop := fun x vs H Q => ∃ l xs i k y, x = .ref l ∧ vs = [.int i] ∧ H l = some (.lst xs) ∧ -(2 ^ 63) ≤ i ∧ i < 2 ^ 63 ∧ seqIndex? i xs.length = some k ∧ xs[k]? = some y ∧ Q y (upd H l (.lst (xs.eraseIdx k)))
theorem mt_popAt : MtM X "list.pop" rPopAt := by
  intro pins s σ H x vs v us Q I rx rv h
  obtain ⟨l, xs, i, k, y, rfl, rfl, hH, h1, h2, hk, hy, q⟩ := h
  cases rx
  obtain ⟨u, rfl, ru⟩ := rv.one
  obtain ⟨t, rfl⟩ := ru
  obtain ⟨z, its, n, r, hl, e⟩ := I.lstM hH
  obtain ⟨w, hw, rw'⟩ := r.get hy
  refine call_meets F.slot_list_pop ⟨_, e, rfl⟩ F.entry_list_pop (F.args_list_pop_2 _ _)
    (MeetsSeq.list_pop_at l its.toArray n i t k w (fitsIndex_both h1 h2) (by rw [List.size_toArray, ← hl]; exact hk) (by rw [← Array.getElem?_toList]; exact hw) (by rw [List.size_toArray]; omega)) ⟨e, ?_⟩
  refine ⟨y, _, I.lset (its' := its.eraseIdx k) hH e ?_ (r.eraseIdx k) ?_, rw', q⟩
  · show its.toArray.eraseIdxIfInBounds k = (its.eraseIdx k).toArray
    rw [List.eraseIdxIfInBounds_toArray]
  · have := len_erase xs k
    omega

def rReverse : V → List V → Hp → VK → Prop := fun x vs H Q => ∃ l xs, x = .ref l ∧ vs = [] ∧ H l = some (.lst xs) ∧ Q .non (upd H l (.lst xs.reverse))
theorem mt_reverse : MtM X "list.reverse" rReverse := by
  intro pins s σ H x vs v us Q I rx rv h
  obtain ⟨l, xs, rfl, rfl, hH, q⟩ := h
  cases rx
  have hus := rv.zero
  subst hus
  obtain ⟨z, its, n, r, hl, e⟩ := I.lstM hH
  refine call_meets F.slot_list_reverse ⟨_, e, rfl⟩ F.entry_list_reverse (F.args_list_reverse_1 _) (AutoSeq1.list_reverse_list_0 l its.toArray n (by rw [List.size_toArray]; omega)) ⟨e, ?_⟩
  refine ⟨.non, _, I.lset (its' := its.reverse) hH e (by simp) r.reverse ?_, rfl, q⟩
  rw [List.length_reverse]
  omega

def rClear : V → List V → Hp → VK → Prop := fun x vs H Q => ∃ l xs, x = .ref l ∧ vs = [] ∧ H l = some (.lst xs) ∧ Q .non (upd H l (.lst []))
theorem mt_clear : MtM X "list.clear" rClear := by
  intro pins s σ H x vs v us Q I rx rv h
  obtain ⟨l, xs, rfl, rfl, hH, q⟩ := h
  cases rx
  have hus := rv.zero
  subst hus
  obtain ⟨z, its, n, r, hl, e⟩ := I.lstM hH
  refine call_meets F.slot_list_clear ⟨_, e, rfl⟩ F.entry_list_clear (F.args_list_clear_1 _) (AutoSeq1.list_clear_list_0 l its.toArray n (by rw [List.size_toArray]; omega)) ⟨e, ?_⟩
  exact ⟨.non, _, I.lset (its' := []) (ys := []) hH e rfl .nil (Nat.zero_le _), rfl, q⟩

/-! ### list + list, list += list, list * int -/
def rCat : R2 := fun x y H Q => ∃ l b xs zs, x = .ref l ∧ y = .ref b ∧ H l = some (.lst xs) ∧ H b = some (.lst zs) ∧ xs.length + zs.length ≤ sizeLine ∧ ∀ p, H p = none → Q (.ref p) (upd H p (.lst (xs ++ zs)))
theorem op_cat : OpR X (binaryOp .Add) rCat := by
  intro pins s σ H x y v u Q I rx ry h
  obtain ⟨l, b, xs, zs, rfl, rfl, hH, hB, hz, q⟩ := h
  cases rx
  cases ry
  obtain ⟨z, its, n, r, hl, e⟩ := I.lstM hH
  obtain ⟨z2, its2, n2, r2, hl2, e2⟩ := I.lstM hB
  refine PySem.P.add_list e e2 ?_ (by rw [List.size_toArray, List.size_toArray]; omega)
  have ea : its.toArray ++ its2.toArray = (its ++ its2).toArray := by simp
  rw [ea]
  exact ⟨.ref _, _, I.lnew (t' := s.toks) (r.append r2) (by rw [List.length_append]; omega), rfl, q _ I.fresh⟩
/-- a list times an int (a negative one is nothing) -/
def rRep : R2 := fun x y H Q => ∃ l k xs, x = .ref l ∧ y = .int k ∧ H l = some (.lst xs) ∧ -(2 ^ 63) ≤ k ∧ k < 2 ^ 63 ∧ xs.length * k.toNat ≤ sizeLine ∧
  ∀ p, H p = none → Q (.ref p) (upd H p (.lst (List.replicate k.toNat xs).flatten))
theorem len_rep {α : Type} (xs : List α) (k : Nat) : (List.replicate k xs).flatten.length = k * xs.length := by
  induction k with
  | zero => simp
  | succ k ih => rw [List.replicate_succ, List.flatten_cons, List.length_append, ih, Nat.succ_mul, Nat.add_comm]
theorem op_rep : OpR X (binaryOp .Mult) rRep := by
  intro pins s σ H x y v u Q I rx ry h
  obtain ⟨l, k, xs, rfl, rfl, hH, h1, h2, hz, q⟩ := h
  cases rx
  obtain ⟨t, rfl⟩ := ry
  obtain ⟨z, its, n, r, hl, e⟩ := I.lstM hH
  have hlen : its.toArray.size * k.toNat ≤ sizeLine := by rw [List.size_toArray, ← hl]; exact hz
  have hcap : ¬ its.toArray.size * k.toNat > (2 ^ 63 - 1) / 8 := by
    have : (sizeLine : Nat) ≤ (2 ^ 63 - 1) / 8 := by decide
    omega
  have hfit : ¬ (!Builtin.List.listFitsIndex k) = true := by
    rw [fitsIndex_both h1 h2]
    exact Bool.false_ne_true
  have hlong : ¬ Builtin.List.listTooLong (its.toArray.size * k.toNat) = true := by
    rw [notLongL hlen]
    exact Bool.false_ne_true
  have hnew : List.foldl (fun x1 x2 => x1 ++ x2) #[] (List.replicate (if its.toArray.isEmpty = true then 0 else k.toNat) its.toArray) = (List.replicate k.toNat its).flatten.toArray := by
    have f0 : ∀ m : Nat, List.foldl (fun x1 x2 => x1 ++ x2) #[] (List.replicate m its.toArray) = (List.replicate m its).flatten.toArray := fun m => by
      have := foldl_rep its m []
      rw [List.nil_append] at this
      exact this
    rw [f0]
    cases its with
    | nil => simp
    | cons a r' => rw [if_neg (by simp)]
  refine wpAny_binaryOp_repeat_ref (T := "list") (U := "int") (by decide) ⟨_, e, rfl⟩ (fun s' => typeIs_int s' k t) noFill_list_mul F.fills_int_mul F.slot_int_rmul repeat_list F.slot_int_index.lookup
    (call_meets F.slot_int_rmul (typeIs_int s k t) F.entry_int_rmul (F.args_int_rmul_2 _ _) (int___rmul___int_list k t l its.toArray n)
      ⟨e, rfl, ⟨_, e, rfl⟩, call_meets F.slot_list_mul ⟨_, e, rfl⟩ F.entry_list_mul (F.args_list_mul_2 _ _) (AutoListH.list___mul___list_int_3 l its.toArray n k t hfit hcap hlong) ⟨e, ?_⟩⟩)
  rw [hnew]
  exact ⟨.ref _, _, I.lnew (t' := s.toks) (r.rep k.toNat) (by rw [len_rep, Nat.mul_comm]; exact hz), rfl, q _ I.fresh⟩

/-! ### del xs[i] -/
theorem del_list {pins : List (Addr × Obj)} {s : Shared} {σ : St} {H : Hp} {l : Addr} {xs : List V} {i : Int} {t : Tok} {k : Nat} {Q : Unit → Shared → Prop} (I : Inv X pins σ H s) (hH : H l = some (.lst xs))
    (h1 : -(2 ^ 63) ≤ i) (h2 : i < 2 ^ 63) (hk : seqIndex? i xs.length = some k) (h : ∀ s', Inv X pins σ (upd H l (.lst (xs.eraseIdx k))) s' → Q () s') :
    wpAny (model X.prog X.w) X.A (delItem (.ref l) (.int i t)) Q X.xe s := by
  obtain ⟨z, its, n, r, hl, e⟩ := I.lstM hH
  refine PySem.P.delItem_list (k := k) e (fitsIndex_both h1 h2) (by rw [List.size_toArray, ← hl]; exact hk) (h _ ?_) (by rw [List.size_toArray]; omega)
  refine I.lset (its' := its.eraseIdx k) (t' := s.toks) hH e ?_ (r.eraseIdx k) ?_
  · show its.toArray.eraseIdxIfInBounds k = (its.eraseIdx k).toArray
    rw [List.eraseIdxIfInBounds_toArray]
  · have := len_erase xs k
    omega
end

/-! ### xs[a:b] = ys -/
section
variable {prog : Program} {w : World} {A : Around} {E : Value → Shared → Prop} {s : Shared}
theorem splice_eq (its its2 : List Value) (a c : Nat) : its.toArray.extract 0 a ++ its2.toArray ++ its.toArray.extract c its.toArray.size = (its.take a ++ its2 ++ its.drop c).toArray := by
  apply Array.toList_inj.mp
  first
    | (simp
       exact List.take_of_length_le (by simp))
    | simp [List.take_of_length_le]
    | simp
theorem bounds_run {a c n : Nat} (hac : a ≤ c) (hc : c ≤ n) : sliceBounds (some (a : Int)) (some (c : Int)) none n = ((a : Int), (c : Int), 1) := by
  simp only [sliceBounds, Option.getD_none]
  have h1 : ¬ ((a : Int) < 0) := by omega
  have h2 : ¬ ((c : Int) < 0) := by omega
  simp only [h1, h2, if_false, show (1 : Int) > 0 by decide, if_true]
  congr 1
  · omega
  · congr 1; omega
set_option maxRecDepth 100000 in
/-- list.__setitem__ with a slice of step one and another list -/
theorem setItem_slice {l b sl : Addr} {items new : Array Value} {n n2 : Nat} {vl vu : Value} {a c : Nat} {Q : Unit → Shared → Prop}
    (e : s.heap.get? l = some { cls := .type "list", data := .seq items n }) (e2 : s.heap.get? b = some { cls := .type "list", data := .seq new n2 }) (hne : l ≠ b)
    (hs : s.heap.IsSliceOf sl vl vu .none) (pl : IsPart vl (some (a : Int))) (pu : IsPart vu (some (c : Int))) (hac : a ≤ c) (hc : c ≤ items.size)
    (hsz : items.size + new.size ≤ sizeLine) (h : Q () { s with heap := s.heap.update l (Obj.mapSeq fun xs => xs.extract 0 a ++ new ++ xs.extract c xs.size) }) :
    wpAny (model prog w) A (setItem (.ref l) (.ref sl) (.ref b)) Q E s := by
  have hl : s.heap.IsList l items := PySem.IsL.isList e
  have hb : s.heap.IsList b new := PySem.IsL.isList e2
  obtain ⟨os, hos, hcs, hds⟩ := id hs
  have hTs : s.TypeIs (.ref sl) "slice" := ⟨os, hos, hcs⟩
  have hstep : ¬ ((rawPart none == rawInt 0) = true) := Bool.false_ne_true
  have hsame : Builtin.List.listSameRef (.ref l) (.ref b) = false := by
    unfold Builtin.List.listSameRef
    exact beq_eq_false_iff_ne.mpr hne
  have hmax : (max (a : Int) (c : Int)).toNat = c := by omega
  have hz' : ((fun xs : Array Value => xs.extract 0 a ++ new ++ xs.extract c xs.size) items).size ≤ sizeLine + 1 := by
    simp only [Array.size_append, Array.size_extract]
    omega
  unfold setItem
  try with_reducible refine wpAny_holding ?_
  first | refine wpAny_bind (wpAny_pure ?_) | skip
  refine wpAny_bind (wpAny_sequenceKey hl.typeIs (by decide) ?_)
  refine wpAny_bind (wpAny_callSpecial?_slot (name := Str.ofString "__setitem__") hl.typeIs slot_list_setitem
    (wpAny_call_entry slot_list_setitem hl.typeIs entry_list_setitem ?_ (args_list_setitem _ _ _)))
  show wpAny _ _ (Builtin.List.listSubscript? (.ref sl) >>= _) _ _ s
  refine wpAny_bind ?_
  unfold Builtin.List.listSubscript?
  refine wpAny_bind (wpAny_specialOf hTs slice_no_index ?_)
  simp only [Option.isNone_none, if_true]
  refine wpAny_pure ?_
  show wpAny _ _ (typeOf (.ref sl) >>= _) _ _ s
  refine wpAny_bind (wpAny_typeOf hTs ?_)
  first
    | rw [if_neg (by decide)]
    | refine PySem.W.KFB.if_not (by decide) ?_
  rw [listSliceParts_eq]
  refine wpAny_bind (wpAny_bind (wpAny_field hos hds (x := .none) rfl (wpAny_bind (wpAny_listPart .none ?_))))
  rw [if_neg hstep]
  refine wpAny_bind (wpAny_field hos hds (x := vl) rfl (wpAny_bind (wpAny_listPart pl ?_)))
  refine wpAny_bind (wpAny_field hos hds (x := vu) rfl (wpAny_bind (wpAny_listPart pu (wpAny_pure ?_))))
  first
    | simp only [hsame, Bool.false_eq_true, if_false]
    | refine PySem.W.KFB.if_not hsame ?_
    | (dsimp only
       rw [if_neg (by rw [hsame]; exact Bool.false_ne_true)])
  refine wpAny_bind (m := Builtin.List.listAllItems (.ref b) "must assign iterable to extended slice") ?_
  unfold Builtin.List.listAllItems
  refine wpAny_bind (wpAny_typeOf hb.typeIs ?_)
  first
    | refine PySem.W.KFB.if_so (by decide) ?_
    | rw [if_pos (by decide)]
    | simp only [beq_self_eq_true, Bool.true_or, if_true]
  unfold Builtin.List.listItems
  refine wpAny_bind (wpAny_seqItems e2 rfl (wpAny_pure ?_))
  refine wpAny_bind (wpAny_bind (wpAny_seqItems e rfl (wpAny_pure ?_)))
  refine wpAny_bind (wpAny_of_eq ((sliceIndices_raw (some (a : Int)) (some (c : Int)) none items.size (by simp)).trans (congrArg (pure : Int × Int × Int → Sem (Int × Int × Int)) (bounds_run hac hc))) ?_)
  show wpAny _ _ (if ((1 : Int) == 1) = true then _ else _) _ _ s
  rw [if_pos (by decide)]
  refine wpAny_bind (wpAny_rule ?_)
  first
    | simp only [notLongL hsz, Bool.false_eq_true, if_false]
    | refine PySem.W.KFB.if_not (notLongL hsz) ?_
  first | refine wpAny_bind (wpAny_pure ?_) | skip
  show wpAny _ _ (updateSeq l (fun xs => xs.extract 0 ((a : Int)).toNat ++ new ++ xs.extract (max (a : Int) (c : Int)).toNat xs.size) >>= _) _ _ s
  rw [hmax, Int.toNat_natCast]
  refine wpAny_bind (wpAny_updateSeq (hz := Nat.le_trans (Nat.le_add_right _ _) hsz) (_hz' := hz') e rfl ?_)
  refine wpAny_bind (wpAny_letGo ?_)
  first
    | exact wpAny_bind (wpAny_pure (wpAny_pure ⟨.none, rfl, wpAny_pure h⟩))
    | exact wpAny_pure ⟨.none, rfl, wpAny_pure h⟩
end

section
variable {X : Cx}
/-- xs[a:c] = ys of another list, at the value level: sl is the slice object that was just made -/
theorem set_slice {pins : List (Addr × Obj)} {s : Shared} {σ : St} {H : Hp} {l b sl : Addr} {xs ys : List V} {a c : Int} {vl vu : Value} {Q : Unit → Shared → Prop} (I : Inv X pins σ H s)
    (hH : H l = some (.lst xs)) (hB : H b = some (.lst ys)) (hne : l ≠ b) (hs : s.heap.IsSliceOf sl vl vu .none) (ra : RelV (.int a) vl) (rc : RelV (.int c) vu) (h0 : 0 ≤ a) (hac : a ≤ c) (hc : c ≤ xs.length)
    (hz : xs.length + ys.length ≤ sizeLine) (h : ∀ s', Inv X pins σ (upd H l (.lst (xs.take a.toNat ++ ys ++ xs.drop c.toNat))) s' → Q () s') :
    wpAny (model X.prog X.w) X.A (setItem (.ref l) (.ref sl) (.ref b)) Q X.xe s := by
  obtain ⟨ta, rfl⟩ := ra
  obtain ⟨tc, rfl⟩ := rc
  obtain ⟨z, its, n, r, hl, e⟩ := I.lstM hH
  obtain ⟨z2, its2, n2, r2, hl2, e2⟩ := I.lstM hB
  obtain ⟨a', rfl⟩ := Int.eq_ofNat_of_zero_le h0
  obtain ⟨c', rfl⟩ := Int.eq_ofNat_of_zero_le (Int.le_trans h0 hac)
  simp only [Int.toNat_natCast] at h
  refine setItem_slice (a := a') (c := c') e e2 hne hs (.int _ _) (.int _ _) (by omega) (by rw [List.size_toArray]; omega) (by rw [List.size_toArray, List.size_toArray]; omega) (h _ ?_)
  refine I.lset (its' := its.take a' ++ its2 ++ its.drop c') (t' := s.toks) hH e ?_ (Vals.append (Vals.append (r.take _) r2) (r.drop _)) ?_
  · exact splice_eq its its2 a' c'
  · rw [List.length_append, List.length_append, List.length_take, List.length_drop]
    omega
end
end L2

namespace Att
open PySem PySem.W PySem.Calls PyProof.Rows

/-! ### the script -/
theorem ints_of_wellAll {P : Params} {h : Heap} : ∀ (ns : List Int) (vs : List Value), WellAll P h vs (ns.map WData.int) → IntsAre vs ns := by
  intro ns
  induction ns with
  | nil =>
    intro vs w
    rw [List.map_nil] at w
    cases w
    exact .nil
  | cons n ns ih =>
    intro vs w
    rw [List.map_cons] at w
    cases w with
    | cons a b =>
      cases a
      exact .cons _ _ (ih _ b)

theorem script_of {l : OpenLaw} {n : Nat} (hn : l.most = some n) {P : Params} {h : Heap} {args : List WData} {vals : List Value}
    (hpre : l.row.toRowW.claim.pre args = true) (hwl : WellAll P h vals args) :
    ∃ a vs ns, vals = [Value.ref a] ∧ args = [WData.list (ns.map WData.int)] ∧ h.get? a = some { cls := .type "list", data := .seq vs.toArray } ∧ IntsAre vs ns ∧ ns.length ≤ n := by
  have hsh : WShape.hasAll [] args [.list .int] = true := (pre_splitW hpre).1
  have hc : l.pre.holds [] { args := args } = true := (pre_splitW hpre).2
  obtain ⟨d, r, rfl, h1, h2⟩ := hasAllW_cons hsh
  obtain rfl := hasAllW_nil h2
  obtain ⟨xs, rfl, h3⟩ := hasW_list h1
  obtain ⟨ns, rfl⟩ := items_int h3
  have hlen : ns.length ≤ n := by
    unfold OpenLaw.pre at hc
    have h4 : (WTm.not (.lt (.lit (.int (n : Int))) (.len (.arg 0)))).holds [] { args := [.list (ns.map .int)] } = true := by
      have h4 := (holds_andW hc).1
      rw [hn] at h4
      exact h4
    have h5 := condW_of h4 (w_not (w_lt w_lit (w_len_list (w_arg rfl))))
    rw [List.length_map] at h5
    refine Nat.le_of_not_lt fun q => ?_
    have q' : (n : Int) < ((ns.length : Nat) : Int) := by omega
    first
      | (rw [decide_eq_true q'] at h5; exact absurd h5 (by decide))
      | (simp at h5; omega)
  cases hwl with
  | cons w1 w2 =>
    cases w2
    cases w1 with
    | list ho hall => exact ⟨_, _, ns, rfl, rfl, ho, ints_of_wellAll ns _ hall, hlen⟩

theorem post_true (l : OpenLaw) (args : List WData) : l.row.toRowW.claim.post args (.bool true) args = true :=
  postW_of (r := l.row.toRowW) (X := (true == true))
    (show WShape.has [] (.bool true) .bool = true by first | rfl | decide | simp [WShape.has, WShape.arms, WShape.armsAll])
    (show (WTm.eq .res (.lit (.bool true))).value [] { args := args, res := some (.bool true), after := args } = some (.bool (true == true)) from w_eq_bool (w_res rfl) w_lit) rfl

/-! ### the attachment: holds_open's last premise (the goal 'hc' behind k_head) from a wpAny of the law's body -/
theorem attach {l : OpenLaw} {n : Nat} {q : Program} {loose : List Str} {XP : (Str → Option Value) → Heap → Prop} {YP : World → Heap → Prop} {d : DefRec} {x : Str}
    (hn : l.most = some n) (hdf : d.params.defaults = [])
    (hbind : ∀ pm cd doc v : Value, bindArgs (docDef d.name d.params d.body d.scope pm cd doc) ⟨[v], []⟩ = pure [(x, v)])
    (hx : d.scope.names.lookup x = some .local ∨ d.scope.names.lookup x = some .cell)
    (hk : d.scope.kind = .function) (hco : d.scope.isCoroutine = false) (hgen : d.scope.isGenerator = false)
    (body : ∀ (w : World) (s₀ s₁ s : Shared) (mg mb : Str → Option Value) (fa : Addr) (o : Obj) (pm cd doc : Value) (a : Addr) (vs : List Value) (ns : List Int),
      Ground q loose [] XP w s₀ mg mb s₁.heap → YP w s₁.heap →
      s₁.heap.get? fa = some o → o.data = .func (docDef d.name d.params d.body d.scope pm cd doc) → s₁.heap.CodeRec cd d.name → mg d.name = some (.ref fa) →
      s₁.heap.get? a = some { cls := .type "list", data := .seq vs.toArray } → IntsAre vs ns → ns.length ≤ n →
      s.gens = #[] → s.os = s₁.os →
      Fr s₁.heap s₁.heap.objs.size s.heap (bindL (envOfC d.name d.scope s₁.heap.objs.size fa cd).kindOf [(x, .ref a)] fun _ => none) →
      Cl s₁.heap.objs.size (cellsFrom (s₁.heap.objs.size + 1) d.scope.names []) s.heap (bindC (envOfC d.name d.scope s₁.heap.objs.size fa cd).kindOf [(x, .ref a)] fun _ => none) →
      wpAny (model l.prog w) (callerA.deeper (envOfC d.name d.scope s₁.heap.objs.size fa cd)) (execs d.body (envOfC d.name d.scope s₁.heap.objs.size fa cd))
        (fun f s' => f = .ret (.bool true) ∧ OldK s₁.heap s'.heap ∧ s'.os = s₁.os ∧ AllBare s'.gens) (fun _ _ => False) s) :
    WalkO q loose XP YP l.row.toRowW d [] (fun f vs => PySem.call f vs) := by
  intro w s₀ s₁ mg mb G Y fa o pm cd doc dV kV ho hd hcd hD hmg hg args vals as hpre hlay hrd hwl hlo
  obtain rfl : dV = .none := Dflts.none hD hdf
  obtain rfl : kV = .none := Dflts.noKw hD
  obtain ⟨a, vs, ns, rfl, rfl, hobj, hints, hlen⟩ := script_of hn hpre hwl
  refine enter_call ?_
  refine call_cells_ret (o := o) (by rw [depth_caller]; decide) ho (fd_plain hd) G.T.nolimit hcd (hbind pm cd doc (.ref a)) (fun y hy => ?_) (fun h₁ tk F X => ?_) hco hgen hk
  · obtain rfl : y = (x, Value.ref a) := List.mem_singleton.mp hy
    rcases hx with e | e
    · exact .inl e
    · exact .inr ⟨e, cellsFrom_some _ _ _ (.inl e)⟩
  · refine wpAny_mono (body w s₀ s₁ { s₁ with heap := h₁, toks := tk } mg mb fa o pm cd doc a vs ns G Y ho (fd_plain hd) hcd hmg hobj hints hlen hg rfl F X) (fun f s' hq => ?_) (fun _ _ hq => hq)
    obtain ⟨rfl, h2, h3, h4⟩ := hq
    exact ⟨.inl ⟨.bool true, .bool true, [], rfl, fun _ => rfl, .bool true, post_true l _, fun _ => ⟨List.Pairwise.nil, fun _ hm => (nomatch hm)⟩⟩, h2, h3, h4⟩

/-- the same from a codeAny of the CALL (for a layer whose function contracts speak of calls) -/
theorem attach_call {l : OpenLaw} {n : Nat} {q : Program} {loose : List Str} {XP : (Str → Option Value) → Heap → Prop} {YP : World → Heap → Prop} {d : DefRec}
    (hn : l.most = some n) (hdf : d.params.defaults = [])
    (call : ∀ (w : World) (s₀ s₁ : Shared) (mg mb : Str → Option Value) (fa : Addr) (o : Obj) (pm cd doc : Value) (a : Addr) (vs : List Value) (ns : List Int),
      Ground q loose [] XP w s₀ mg mb s₁.heap → YP w s₁.heap →
      s₁.heap.get? fa = some o → o.data = .func (docDef d.name d.params d.body d.scope pm cd doc) → s₁.heap.CodeRec cd d.name → mg d.name = some (.ref fa) →
      s₁.heap.get? a = some { cls := .type "list", data := .seq vs.toArray } → IntsAre vs ns → ns.length ≤ n → s₁.gens = #[] →
      codeAny (model l.prog w) callerA (.call (.ref fa) ⟨[.ref a], []⟩) (fun r s' => r = .ok (.ret (.bool true)) ∧ OldK s₁.heap s'.heap ∧ s'.os = s₁.os ∧ AllBare s'.gens) s₁) :
    WalkO q loose XP YP l.row.toRowW d [] (fun f vs => PySem.call f vs) := by
  intro w s₀ s₁ mg mb G Y fa o pm cd doc dV kV ho hd hcd hD hmg hg args vals as hpre hlay hrd hwl hlo
  obtain rfl : dV = .none := Dflts.none hD hdf
  obtain rfl : kV = .none := Dflts.noKw hD
  obtain ⟨a, vs, ns, rfl, rfl, hobj, hints, hlen⟩ := script_of hn hpre hwl
  refine enter_call (codeAny_mono (call w s₀ s₁ mg mb fa o pm cd doc a vs ns G Y ho (fd_plain hd) hcd hmg hobj hints hlen hg) fun r s' hq => ?_)
  obtain ⟨rfl, h2, h3, h4⟩ := hq
  exact ⟨.inl ⟨.bool true, .bool true, [], rfl, fun _ => rfl, .bool true, post_true l _, fun _ => ⟨List.Pairwise.nil, fun _ hm => (nomatch hm)⟩⟩, h2, h3, h4⟩

/-- the same where the top left finished generators (o_head chose holds_openN): nothing may have changed at all and no generator may be left -/
theorem attachN {l : OpenLaw} {n : Nat} {q : Program} {loose : List Str} {XP : (Str → Option Value) → Heap → Prop} {YP : World → Heap → Prop} {d : DefRec} {x : Str}
    (hn : l.most = some n) (hdf : d.params.defaults = [])
    (hbind : ∀ pm cd doc v : Value, bindArgs (docDef d.name d.params d.body d.scope pm cd doc) ⟨[v], []⟩ = pure [(x, v)])
    (hx : d.scope.names.lookup x = some .local ∨ d.scope.names.lookup x = some .cell)
    (hk : d.scope.kind = .function) (hco : d.scope.isCoroutine = false) (hgen : d.scope.isGenerator = false)
    (body : ∀ (w : World) (s₀ s₁ s : Shared) (mg mb : Str → Option Value) (fa : Addr) (o : Obj) (pm cd doc : Value) (a : Addr) (vs : List Value) (ns : List Int),
      Ground q loose [] XP w s₀ mg mb s₁.heap → YP w s₁.heap →
      s₁.heap.get? fa = some o → o.data = .func (docDef d.name d.params d.body d.scope pm cd doc) → s₁.heap.CodeRec cd d.name → mg d.name = some (.ref fa) →
      s₁.heap.get? a = some { cls := .type "list", data := .seq vs.toArray } → IntsAre vs ns → ns.length ≤ n →
      s.gens = #[] → s.os = s₁.os →
      Fr s₁.heap s₁.heap.objs.size s.heap (bindL (envOfC d.name d.scope s₁.heap.objs.size fa cd).kindOf [(x, .ref a)] fun _ => none) →
      Cl s₁.heap.objs.size (cellsFrom (s₁.heap.objs.size + 1) d.scope.names []) s.heap (bindC (envOfC d.name d.scope s₁.heap.objs.size fa cd).kindOf [(x, .ref a)] fun _ => none) →
      wpAny (model l.prog w) (callerA.deeper (envOfC d.name d.scope s₁.heap.objs.size fa cd)) (execs d.body (envOfC d.name d.scope s₁.heap.objs.size fa cd))
        (fun f s' => f = .ret (.bool true) ∧ (∀ b o, s₁.heap.get? b = some o → s'.heap.get? b = some o) ∧ s'.os = s₁.os ∧ s'.gens = #[]) (fun _ _ => False) s) :
    WalkN q loose XP YP l.row.toRowW d [] (fun f vs => PySem.call f vs) := by
  intro w s₀ s₁ mg mb G Y fa o pm cd doc dV kV ho hd hcd hD hmg hg args vals as hpre hlay hrd hwl hlo
  obtain rfl : dV = .none := Dflts.none hD hdf
  obtain rfl : kV = .none := Dflts.noKw hD
  obtain ⟨a, vs, ns, rfl, rfl, hobj, hints, hlen⟩ := script_of hn hpre hwl
  refine enter_callW ?_
  refine call_cells_ret (o := o) (by rw [depth_caller]; decide) ho (fd_plain hd) G.T.nolimit hcd (hbind pm cd doc (.ref a)) (fun y hy => ?_) (fun h₁ tk F X => ?_) hco hgen hk
  · obtain rfl : y = (x, Value.ref a) := List.mem_singleton.mp hy
    rcases hx with e | e
    · exact .inl e
    · exact .inr ⟨e, cellsFrom_some _ _ _ (.inl e)⟩
  · refine wpAny_mono (body w s₀ s₁ { s₁ with heap := h₁, toks := tk } mg mb fa o pm cd doc a vs ns G Y ho (fd_plain hd) hcd hmg hobj hints hlen hg rfl F X) (fun f s' hq => ?_) (fun _ _ hq => hq)
    obtain ⟨rfl, h2, h3, h4⟩ := hq
    exact ⟨.inl ⟨.bool true, .bool true, [], rfl, fun _ => rfl, .bool true, post_true l _, fun _ => ⟨List.Pairwise.nil, fun _ hm => (nomatch hm)⟩⟩, h2, h3, h4⟩

/-! ### rules over ANY heap (no ledger) from facts about the written part K: the library's own take a ledger (News) for what they write -/
section
variable {prog : Program} {w : World} {A : Around} {E : Value → Shared → Prop} {s : Shared} {K : Frag}

/-- a def of the module, or a method (qual 'C.m'), entered: the frame is the next address; cells behind it -/
theorem call_fn {R : Result → Shared → Prop} {name qual : Str} {params : Arguments} {body : List Stmt} {scope : Scope} {dV kV doc pm cdv ct oc : Value} {an od : Option Addr} {osl : Array (Option Value)} {f : Addr} {args : Args} {binds : List (Str × Value)}
    (X : K.In s.heap) (hlim : s.heap.NoLimit) (ho : K.lookup f = some ⟨oc, od, .func (fnOf name qual params body scope dV kV doc pm an cdv ct), osl⟩) (hcd : codeIn K cdv qual = true) (hroom : A.depth < recursionLimit)
    (hbind : BindsTo s (fnOf name qual params body scope dV kV doc pm an cdv ct) args binds)
    (hkind : (binds.all fun y => scope.names.lookup y.1 == some .local || scope.names.lookup y.1 == some .cell) = true)
    (h : ∀ s₁, InCallC s s.heap.objs.size (bindL (envOfC qual scope s.heap.objs.size f cdv).kindOf binds fun _ => none) (cellsFrom (s.heap.objs.size + 1) scope.names [])
        (bindC (envOfC qual scope s.heap.objs.size f cdv).kindOf binds fun _ => none) s₁ →
      wpAny (model prog w) (A.deeper (envOfC qual scope s.heap.objs.size f cdv)) (execs body (envOfC qual scope s.heap.objs.size f cdv))
        (fun fl s' => R (.ok (.ret (match fl with | .ret v => v | _ => .none))) s')
        (fun e s' => wpAny (model prog w) (A.deeper (envOfC qual scope s.heap.objs.size f cdv)) (leaving (envOfC qual scope s.heap.objs.size f cdv) e) (fun _ s'' => R (.error e) s'') (fun e' s'' => R (.error e') s'') s') s₁)
    (hco : scope.isCoroutine = false) (hgen : scope.isGenerator = false) (hk : scope.kind = .function) : codeAny (model prog w) A (.call (.ref f) args) R s := by
  refine codeAny_call_function hroom (X _ _ ho) rfl hco hgen rfl (codeRec_of X hcd) (hbind _ _ _ _ ?_)
  refine wpAny_newFunctionEnv_cells hk (kindsX hkind _) fun env he s₁ x => ?_
  subst he
  exact ⟨hlim.keeps x.toInCall.keep, codeAny_func (h s₁ x)⟩

/-- C(..): dict at size, instance at size + 1, then __init__ -/
theorem make_obj {R : Result → Shared → Prop} {C fI : Addr} {rest : List Value} {kw : List (Str × Value)}
    (X : K.In s.heap) (hm : makesIn K C = true) (hi : findIn K (.ref C) "__init__" = some (some (.ref fI))) (hf : isFn K (.ref fI) = true)
    (h : codeAny (model prog w) (A.under (.builtin "type.__call__" ⟨.ref C :: rest, kw⟩)) (.call (.ref fI) ⟨.ref (s.heap.objs.size + 1) :: rest, kw⟩) (InitBack (s.heap.objs.size + 1) R)
      { s with heap := (s.heap.push emptyDict).push (instObj C s.heap.objs.size) }) : codeAny (model prog w) A (.call (.ref C) ⟨rest, kw⟩) R s := by
  obtain ⟨hh, g, d, t, os⟩ := s
  exact make_core (makes_of X hm) (looks_findIn X hi) (fun self => bind_fn X self (beq_iff_eq.mp hf)) (.inl rfl) h

/-- x.name where the instance's dict holds the name and the class does not -/
theorem get_field {x C : Addr} {ox : Obj} {es : List DictEntry} {n : Nat} {name : Str} {expr : Bool} {v : Value} {Q : Value → Shared → Prop}
    (X : K.In s.heap) (I : PySem.W.InstAt s.heap x ox C (some (dictOf es n))) (hg : plainGet K C name = true) (hh : hasDictIn K C = true) (ha : findIn K (.ref C) name = some none)
    (hl : getL name es = some (some v)) (hv : handedIn v = true) (h : Q v { s with toks := s.toks + 1 }) : wpAny (model prog w) A (getAttr (.ref x) name expr) Q E s :=
  get_value X I (plainGet_of hg).1 (findObj_own hh ha rfl hl) hv h

/-- x.m(..): the method found in the class -/
theorem get_method {x C f : Addr} {ox : Obj} {es : List DictEntry} {n : Nat} {name : Str} {pl : Sem Bool} {Q : Value × List Value → Shared → Prop}
    (X : K.In s.heap) (I : PySem.W.InstAt s.heap x ox C (some (dictOf es n))) (hg : plainGet K C name = true) (hf : findIn K (.ref C) name = some (some (.ref f))) (ht : isFn K (.ref f) = true)
    (hl : getL name es = some none) (h : Q (.ref f, [.ref x]) s) : wpAny (model prog w) A (getMethod (.ref x) name pl) Q E s :=
  method_fn X I (plainGet_of hg).1 (plainGet_of hg).2 hf (beq_iff_eq.mp ht) (by show (lookIn name (dictOf es n)).map _ = _; rw [lookIn_dict, hl]; rfl) h

/-! the whole heap as the ledger: makes every rule that writes through a ledger a rule over any heap -/
def noObjs (h : Heap) : Heap := { h with objs := #[] }
theorem noObjs_get (h : Heap) (b : Addr) : (noObjs h).get? b = none := by
  cases e : (noObjs h).get? b with
  | none => rfl
  | some o => exact absurd (Heap.lt_size e) (Nat.not_lt_zero _)
def ledger (h : Heap) (L d : Addr) : List (Addr × Obj) := (List.range h.objs.size).filterMap fun a => if a = L ∨ a = d then none else (h.get? a).map fun o => (a, o)
theorem mem_ledger {h : Heap} {L d a : Addr} {o : Obj} : (a, o) ∈ ledger h L d ↔ a ≠ L ∧ a ≠ d ∧ h.get? a = some o := by
  unfold ledger
  rw [List.mem_filterMap]
  constructor
  · rintro ⟨b, _, e⟩
    split at e
    · cases e
    · rename_i hb
      obtain ⟨o', ho, e'⟩ := Option.map_eq_some_iff.mp e
      cases e'
      exact ⟨fun q => hb (.inl q), fun q => hb (.inr q), ho⟩
  · rintro ⟨n1, n2, ho⟩
    refine ⟨a, List.mem_range.mpr (Heap.lt_size ho), ?_⟩
    rw [if_neg (show ¬ (a = L ∨ a = d) from fun q => q.elim n1 n2), ho] <;> rfl
theorem news_ledger {h : Heap} {L d : Addr} {od : Obj} (hne : d ≠ L) (ho : h.get? d = some od) : News (noObjs h) L h ([] ++ (d, od) :: ledger h L d) := by
  rintro ⟨a, o⟩ hp
  rcases List.mem_cons.mp hp with e | hp
  · cases e
    exact ⟨ho, hne, noObjs_get _ _⟩
  · obtain ⟨n1, n2, e⟩ := mem_ledger.mp hp
    exact ⟨e, n1, noObjs_get _ _⟩
theorem fr_all {h : Heap} {L : Addr} {m : Str → Option Value} (n : h.Ns L m) : Fr (noObjs h) L h m :=
  ⟨n, fun b o e => (by rw [noObjs_get] at e; cases e), Nat.zero_le _⟩
/-- Upd of the head entry (for append_K, setItem_K ..) -/
theorem upd_ledger {h : Heap} {L d : Addr} {o o' : Obj} : Upd d o o' ((d, o) :: ledger h L d) ((d, o') :: ledger h L d) :=
  .head fun ⟨_, _⟩ hp => (mem_ledger.mp hp).2.1

/-- x.name = v over any heap: L is any namespace of the heap (the frame's, say): its map stays, its object is not told; all else but the dict stays -/
theorem set_field {x C dx L : Addr} {ox : Obj} {m : Str → Option Value} {es es' : List DictEntry} {n n' : Nat} {name : Str} {v : Value} {Q : Unit → Shared → Prop}
    (X : K.In s.heap) (I : PySem.W.InstAt s.heap x ox C (some (dictOf es n))) (hd : ox.dict = some dx) (hL : s.heap.Ns L m) (hne : dx ≠ L)
    (hs : findIn K (.ref C) "__setattr__" = some (some (.builtin "object.__setattr__"))) (hp : plainOver K C = true) (ht : takerIn K C name = some none) (hh : hasDictIn K C = true) (hl : (getL name es).isSome = true)
    (e : (putL name (PyData.keyHash w.params name) (.str name (s.toks + 1)) v es, putN name es n) = (es', n')) (hz : es'.length ≤ 1000)
    (h : ∀ h' : Heap, h'.Ns L m → h'.get? dx = some (dictOf es' n') → (∀ b o, b ≠ dx → b ≠ L → s.heap.get? b = some o → h'.get? b = some o) → Q () { s with heap := h', toks := s.toks + 2 }) :
    wpAny (model prog w) A (setAttr (.ref x) name v) Q E s := by
  obtain ⟨e1, e2⟩ := Prod.mk.inj e
  have hdx : s.heap.get? dx = some (dictOf es n) := by
    have := I.dict
    rw [hd] at this
    exact this
  refine set_plain X I hs (osa_dict (s := { s with toks := s.toks + 1 }) (h₀ := noObjs s.heap) (L := L) (m := m) (od := dictOf es n) (od' := dictOf es' n') (es := es') (n := n') (pre := []) (post := ledger s.heap L dx)
    (fr_all hL) (news_ledger hne hdx) X I hd hp ht hh hl (fun _ q => nomatch q) (fun ⟨_, _⟩ q => (mem_ledger.mp q).2.1) (by rw [putName_dict, e1, e2]) rfl hz fun h' F' N' => ?_)
  exact h h' F'.ns (N'.get (List.Mem.head _)) fun b o n1 n2 ho => N'.get (List.Mem.tail _ (mem_ledger.mpr ⟨n2, n1, ho⟩))
end
end Att

namespace L2
open PySem PySem.Spec PyProof.Rows

theorem vals_ints : ∀ {vs : List Value} {ns : List Int}, IntsAre vs ns → Vals (ns.map V.int) vs
  | _, _, .nil => .nil
  | _, _, .cons n t h => .cons ⟨t, rfl⟩ (vals_ints h)

/-- nothing is tracked but the script, known to the object (or it is an object of the module) -/
def Only (H : Hp) : Prop := ∀ b, H b = none ∨ ∃ o xs, H b = some (.frz o (.lst xs))

/-- THE HEAD: the law's promise, at the heap behind the top. F, the promise of the law's def, may use that base is part of the heap (so K.In base, base.Ns mainGlobals mg stand in Mod) -/
theorem law_call {P : Program} {w : World} {K : PySem.W.Frag} {mg mb : Str → Option Value} {CX : CXT} {k : Nat} {fa a : Addr} {fd : FuncData} {x : Str} {sp : Sp} {s₁ : Shared} {vs : List Value} {ns : List Int}
    (KX : K.In s₁.heap) (hns : s₁.heap.Ns mainGlobals mg) (hb : s₁.heap.Ns builtinsNs mb) (hbb : ∀ x : Str, x ≠ "__name__" → mb x = bootBuiltins x) (hlim : s₁.heap.NoLimit) (hg : s₁.gens = #[])
    (ha : s₁.heap.get? a = some { cls := .type "list", data := .seq vs.toArray }) (hi : IntsAre vs ns) (hl : ns.length ≤ sizeLine) (hr : Room k callerA)
    (F : ∀ base : Heap, K.In base → base.Ns mainGlobals mg → FnOk P w K mg base CX k fa fd [x] sp) (hbind : ∀ (s : Shared) (u : Value), BindsTo s fd ⟨[u], []⟩ [(x, u)])
    (hsp : ∀ H : Hp, Only H → SqL K H a (ns.map V.int) → sp [.ref a] H (fun v _ => v = .bl true) fun _ _ _ => False)
    (hCX : ∀ H e s', CX [] H s₁ (fun _ _ _ => False) e s' → False) :
    codeAny (model P w) callerA (.call (.ref fa) ⟨[.ref a], []⟩) (fun r s' => r = .ok (.ret (.bool true)) ∧ OldK s₁.heap s'.heap ∧ s'.os = s₁.os ∧ AllBare s'.gens) s₁ := by
  have rv := vals_ints hi
  have lenV := hi.length
  -- from an abstract heap in which nothing but the script may be tracked
  have core : ∀ H : Hp, Only H → SqL K H a (ns.map V.int) → HOk P w H s₁.heap → (∀ b, H b ≠ none → b = a) → (H a ≠ none → K.lookup a = none) →
      codeAny (model P w) callerA (.call (.ref fa) ⟨[.ref a], []⟩) (fun r s' => r = .ok (.ret (.bool true)) ∧ OldK s₁.heap s'.heap ∧ s'.os = s₁.os ∧ AllBare s'.gens) s₁ := by
    intro H hO hS hok hA hK
    have base_of : ∀ {b : Addr} {o : Obj}, s₁.heap.get? b = some o → H b = none → (hidT s₁.heap H).get? b = some o := fun e n => hidT_get e n
    have noA : ∀ {b : Addr} {o : Obj} {es : Array DictEntry} {ep : Nat}, s₁.heap.get? b = some o → o.data = .dict es ep → H b = none := fun {b o es ep} e d => by
      cases q : H b with
      | none => rfl
      | some u =>
        have e' : b = a := hA b (by rw [q]; simp)
        subst e'
        rw [ha] at e; cases e
        have d' : Data.seq vs.toArray _ = Data.dict es ep := d
        cases d'
    have nsK : ∀ {b : Addr} {m : Str → Option Value}, s₁.heap.Ns b m → (hidT s₁.heap H).Ns b m := fun {b m} ⟨o, es, ep, e, d, r⟩ => ⟨o, es, ep, base_of e (noA e d), d, r⟩
    have hKb : K.In (hidT s₁.heap H) := fun b o e => base_of (KX b o e) (by
      cases q : H b with
      | none => rfl
      | some u =>
        have e' : b = a := hA b (by rw [q]; simp)
        subst e'
        rw [hK (by rw [q]; simp)] at e; cases e)
    have hM : Mod K mg (hidT s₁.heap H) := ⟨hKb, nsK hns, ⟨mb, nsK hb, hbb⟩, let ⟨mc, h1, h2⟩ := hlim; ⟨mc, nsK h1, h2⟩⟩
    have e0 : Env0 P w K mg (hidT s₁.heap H) callerA [] s₁ H := ⟨rfl, hM, fun b o e => of_hidT e, Nat.le_of_eq (hidT_size _ _), trivial, fun b hb => absurd (show b ∈ ([] : List Addr) from hb) (by simp), hok, .of_eq hg⟩
    refine codeAny_mono ((F _ hKb (nsK hns)).run callerA [] s₁ H ⟨[.ref a], []⟩ [.ref a] [.ref a] _ _ hr e0 (hbind s₁ (.ref a)) (.cons rfl .nil) (hsp H hO hS)) fun r s' h => ?_
    cases r with
    | error e => exact (hCX H e s' h).elim
    | ok fl =>
      cases fl with
      | next => exact False.elim h
      | brk => exact False.elim h
      | cont => exact False.elim h
      | ret u =>
        obtain ⟨v, H', os, bare, un, hok', r', q⟩ := h
        have q' : v = .bl true := q
        subst q'
        obtain rfl : u = Value.bool true := r'
        refine ⟨rfl, OldK.of_keep fun b o e => ?_, os, bare⟩
        cases q : H b with
        | none => exact un.keep b o e q (by intro z; exact absurd (show b ∈ ([] : List Addr) from z) (by simp)) (by simp)
        | some u =>
          rcases hO b with z | ⟨ob, xs, z⟩
          · rw [q] at z; cases z
          · have z2 := un.frzs b ob _ z
            obtain ⟨e1, _⟩ := hok b _ z
            obtain ⟨e2, _⟩ := hok' b _ z2
            rw [e] at e1; cases e1
            exact e2
  cases hk : K.lookup a with
  | some o =>
    -- the script is one of the module's own objects
    have e := KX a o hk
    rw [ha] at e
    cases e
    refine core (fun _ => none) (fun _ => .inl rfl) (.inr ⟨_, vs.toArray, _, hk, rfl, rfl, rfl, by rw [List.size_toArray, lenV]; exact hl, by simpa using rv⟩) (fun b u z => by have z' : (none : Option HO) = some u := z; cases z') (fun b z => absurd rfl z) fun z => absurd rfl z
  | none =>
    refine core (fun b => if b = a then some (.frz { cls := .type "list", data := .seq vs.toArray } (.lst (ns.map V.int))) else none) (fun b => ?_) (.inl (.inr ⟨{ cls := .type "list", data := .seq vs.toArray }, if_pos rfl⟩)) (fun b u z => ?_) (fun b z => ?_) fun _ => hk
    · by_cases hb : b = a
      · exact .inr ⟨_, _, if_pos hb⟩
      · exact .inl (if_neg hb)
    · by_cases hb : b = a
      · have z' := (if_pos hb).symm.trans z
        cases z'
        subst hb
        exact ⟨ha, by rw [List.length_map]; exact hl, vs, _, rv, ha⟩
      · have z' := (if_neg hb).symm.trans z
        cases z'
    · by_cases hb : b = a
      · exact hb
      · exact absurd (if_neg hb) z
end L2

namespace L2
open PySem PySem.Spec PyProof.Rows

abbrev KOf {K : PySem.W.Frag} {h : Heap} (_ : K.In h) : PySem.W.Frag := K

/-- the goal that k_head leaves (case hc), from the law's promise. F gives the function object fd (K's own) once, then the promise over every base -/
theorem walk_of {l : PySem.W.OpenLaw} {n k : Nat} {q : Program} {loose : List Str} {XP : (Str → Option Value) → Heap → Prop} {YP : World → Heap → Prop} {d : DefRec} {K : Params → PySem.W.Frag} {CX : World → CXT} {sp : World → Sp} {x : Str}
    (hn : l.most = some n) (hn2 : n ≤ sizeLine) (hdf : d.params.defaults = []) (hr : Room k callerA)
    (hY : ∀ (w : World) (h : Heap), YP w h → (K w.params).In h)
    (F : ∀ (w : World) (mg : Str → Option Value) (fa : Addr) (h : Heap), (K w.params).In h → h.Ns mainGlobals mg → mg d.name = some (.ref fa) →
      ∃ fd : FuncData, (∀ (s : Shared) (u : Value), BindsTo s fd ⟨[u], []⟩ [(x, u)]) ∧
        ∀ base : Heap, (K w.params).In base → base.Ns mainGlobals mg → FnOk l.prog w (K w.params) mg base (CX w) k fa fd [x] (sp w))
    (hsp : ∀ (w : World) (H : Hp) (a : Addr) (ns : List Int), ns.length ≤ n → Only H → SqL (K w.params) H a (ns.map V.int) → sp w [.ref a] H (fun v _ => v = .bl true) fun _ _ _ => False)
    (hCX : ∀ (w : World) (H : Hp) (s : Shared) (e : Value) (s' : Shared), CX w [] H s (fun _ _ _ => False) e s' → False) :
    PySem.W.WalkO q loose XP YP l.row.toRowW d [] (fun f vs => PySem.call f vs) := by
  refine Att.attach_call hn hdf fun w s₀ s₁ mg mb fa o pm cd doc a vs ns G Y ho hd hcd hmg hobj hints hlen hg => ?_
  have KX := hY w _ Y
  obtain ⟨fd, hb, hF⟩ := F w mg fa _ KX G.T.g hmg
  exact law_call KX G.T.g G.T.b G.T.builtins G.T.nolimit hg hobj hints (Nat.le_trans hlen hn2) hr hF hb (fun H hO hS => hsp w H a ns hlen hO hS) fun H e s' => hCX w H s₁ e s'
/-- the same where the promise hangs on the written part alone: (sp := My.sp_law), no hole under a binder -/
theorem walk_ofK {l : PySem.W.OpenLaw} {n k : Nat} {q : Program} {loose : List Str} {XP : (Str → Option Value) → Heap → Prop} {YP : World → Heap → Prop} {d : DefRec} {K : Params → PySem.W.Frag} {CX : CXT} {sp : PySem.W.Frag → Sp} {x : Str}
    (hn : l.most = some n) (hn2 : n ≤ sizeLine) (hdf : d.params.defaults = []) (hr : Room k callerA)
    (hY : ∀ (w : World) (h : Heap), YP w h → (K w.params).In h)
    (F : ∀ (w : World) (mg : Str → Option Value) (fa : Addr) (h : Heap), (K w.params).In h → h.Ns mainGlobals mg → mg d.name = some (.ref fa) →
      ∃ fd : FuncData, (∀ (s : Shared) (u : Value), BindsTo s fd ⟨[u], []⟩ [(x, u)]) ∧
        ∀ base : Heap, (K w.params).In base → base.Ns mainGlobals mg → FnOk l.prog w (K w.params) mg base CX k fa fd [x] (sp (K w.params)))
    (hsp : ∀ (K : PySem.W.Frag) (H : Hp) (a : Addr) (ns : List Int), ns.length ≤ n → Only H → SqL K H a (ns.map V.int) → sp K [.ref a] H (fun v _ => v = .bl true) fun _ _ _ => False)
    (hCX : ∀ (H : Hp) (s : Shared) (e : Value) (s' : Shared), CX [] H s (fun _ _ _ => False) e s' → False) :
    PySem.W.WalkO q loose XP YP l.row.toRowW d [] (fun f vs => PySem.call f vs) :=
  walk_of (K := K) (CX := fun _ => CX) (sp := fun w => sp (K w.params)) hn hn2 hdf hr hY F (fun w H a ns h1 h2 h3 => hsp (K w.params) H a ns h1 h2 h3) fun _ H s e s' => hCX H s e s'
end L2

/- THE LAST THEOREM (shape; LID, My.* are yours):
   My.Adr: a structure of the addresses that your layer names (classes, functions); My.Txt K t: a structure (Prop) of the equations over K;
   My.txt_mk : {K} {implicit addresses ..} (e1 : nsIn K mainGlobals "law" = some (some (.ref f))) (e2 : K.lookup f = some ⟨oc, od, .func (fnOf "law" "law" params body scope dV kV doc pm an cdv ct), sl⟩) (e3 : codeIn K cdv "law" = true) .. : ∃ t, My.Txt K t

set_option maxRecDepth 100000 in
set_option maxHeartbeats 0 in
theorem PySem.Challenge.cw_LID_holds : PySem.Challenge.rw_LID.Holds := by
  w_on; o_law; k_head; (case hw => w_witness2)
  k_fill
  refine L2.walk_of (l := PySem.Challenge.rw_LID) (n := 63) (k := 40) (x := "script") (CX := fun w => ..) (sp := fun _ => My.sp_law) rfl (by decide) rfl ⟨rfl, by decide, by decide⟩ (fun w h Y => PySem.W.kIn_of Y) ?F ?S ?C
  case F =>
    intro w mg fa h KX G hmg
    have T : ∃ t, My.Txt (L2.KOf KX) t := by
      dsimp only [L2.KOf]                          -- K must stand as «<heap const> w.params» for k_is
      refine' My.txt_mk ?e1 ?e2 ?e3 ..
      (case e1 => PySem.W.k_is)                    -- in the order: a name -> its address -> its object -> its parts
      (case e2 => PySem.W.k_is)
      ..
    obtain ⟨t, T⟩ := T
    have e0 := hmg.symm.trans (PySem.W.mg_of KX G T.law)
    cases e0                                       -- fa is the law's own address
    exact ⟨_, fun s u => .of_eq rfl, fun base kb nb => My.law_fn T kb nb⟩     -- if «.of_eq rfl» comes too early: refine' ⟨_, ?b, fun base kb nb => My.law_fn T kb nb⟩; exact fun s u => .of_eq rfl
  case S => exact fun w H a ns hl hO hS => ..
  case C => exact ..
(the tactic k_is has no namespace: write k_is) -/

/-! SHORT WORDS over the layer: a def of the text, its body, what a loop and a test want. -/
namespace L2
open PySem PySem.Spec PyProof.Rows

/-! ### the text by places -/
/-- the j-th statement of a class's body -/
def inClass (s : Stmt) (j : Nat) : Stmt := match s with
  | .ClassDef _ _ _ body _ _ _ _ _ _ _ => body.getD j (.Pass ⟨0, 0, 0, 0⟩)
  | _ => .Pass ⟨0, 0, 0, 0⟩
def defArgs (s : Stmt) : Arguments := match s with
  | .FunctionDef _ a _ _ _ _ _ _ _ _ => a
  | _ => { posonlyargs := [], args := [], vararg := none, kwonlyargs := [], kw_defaults := [], kwarg := none, defaults := [] }
def defBody (s : Stmt) : List Stmt := match s with
  | .FunctionDef _ _ b _ _ _ _ _ _ _ => b
  | _ => []
def defScope (s : Stmt) : Scope := match s with
  | .FunctionDef _ _ _ _ _ _ sc _ _ _ => sc
  | _ => { kind := .function, names := [], isGenerator := false, isCoroutine := false }

/-! ### no exception leaves a def -/
abbrev CX0 : CXT := fun _ _ _ _ _ _ => False
abbrev E0 : XK := fun _ _ _ => False
theorem pass0 {X : Cx} : Passes CX0 X E0 := fun _ _ _ _ _ _ _ h => h.elim

/-! ### a def (or method) of the text as it stands behind the top -/
structure Fun (K : PySem.W.Frag) (x qual : Str) (st : Stmt) (f : Addr) (fd : FuncData) : Prop where
  ex : ∃ (oc : Value) (od : Option Addr) (kV doc pm : Value) (an : Option Addr) (cdv ct : Value) (osl : Array (Option Value)),
    fd = PySem.W.fnOf x qual (defArgs st) (defBody st) (defScope st) .none kV doc pm an cdv ct ∧ K.lookup f = some ⟨oc, od, .func fd, osl⟩ ∧ PySem.W.codeIn K cdv qual = true
  kp : PySem.W.keepIn K (.ref f) = true
section
variable {P : Program} {w : World} {K : PySem.W.Frag} {mg : Str → Option Value} {base : Heap}
/-- THE RULE for a def: its body as a term of rules, and the reading of that term -/
theorem Fun.ok {x qual : Str} {st : Stmt} {f : Addr} {fd : FuncData} {N ps : List Str} {k : Nat} {sp : Sp} (F : Fun K x qual st f fd) (S : FnScope N ps (defScope st)) (len : ∀ vs H Q E, sp vs H Q E → vs.length = ps.length)
    (hbody : ∀ (cdv : Value) (A : Around) (outer : List Env) (s : Shared) (H : Hp) (vs : List V) (Q : VK) (E : XK), Room k (A.deeper (envOfC qual (defScope st) s.heap.objs.size f cdv)) → sp vs H Q E →
      ∃ t, PSs (cxOf CX0 P w K mg base N qual (defScope st) f cdv A outer s H E).nox (defBody st) t ∧ t { nx := fun _ H' => Q .non H', rt := Q } (start N vs) H) : FnOk P w K mg base CX0 (k + 1) f fd ps sp := by
  obtain ⟨oc, od, kV, doc, pm, an, cdv, ct, osl, rfl, lk, hcd⟩ := F.ex
  refine fn_of lk hcd S len fun A outer s H vs Q E hr hsp => ?_
  obtain ⟨t, h, q⟩ := hbody cdv A outer s H vs Q E hr hsp
  exact ⟨t, h.nox, q⟩
/-- how its arguments bind (no defaults): h is «fun _ _ _ _ _ _ us hl => match us, hl with | [_, _], _ => rfl», one _ a parameter -/
theorem Fun.binds {x qual : Str} {st : Stmt} {f : Addr} {fd : FuncData} {ps : List Str} (F : Fun K x qual st f fd)
    (h : ∀ (kV doc pm : Value) (an : Option Addr) (cdv ct : Value) (us : List Value), us.length = ps.length → bindArgs (PySem.W.fnOf x qual (defArgs st) (defBody st) (defScope st) .none kV doc pm an cdv ct) ⟨us, []⟩ = pure (ps.zip us)) : Binds K fd ps [] := by
  obtain ⟨oc, od, kV, doc, pm, an, cdv, ct, osl, rfl, lk, hcd⟩ := F.ex
  exact .all (h kV doc pm an cdv ct)
theorem fun_mk {x qual : Str} {st : Stmt} {f : Addr} {oc : Value} {od an : Option Addr} {osl : Array (Option Value)} {kV doc pm cdv ct : Value} (l : K.lookup f = some ⟨oc, od, .func (PySem.W.fnOf x qual (defArgs st) (defBody st) (defScope st) .none kV doc pm an cdv ct), osl⟩)
    (c : PySem.W.codeIn K cdv qual = true) (k : PySem.W.keepIn K (.ref f) = true) : Fun K x qual st f (PySem.W.fnOf x qual (defArgs st) (defBody st) (defScope st) .none kV doc pm an cdv ct) := ⟨⟨oc, od, kV, doc, pm, an, cdv, ct, osl, rfl, l, c⟩, k⟩
end
theorem hu_of {A : Around} {k : Nat} (hr : Room k A) : A.units + 1 < cLine := Nat.lt_of_le_of_lt (Nat.add_le_add_left (by decide : 1 ≤ 64) _) hr.units
theorem small1000 {n : Nat} (h : n ≤ 1000) : n < sizeLine := Nat.lt_of_le_of_lt h (by decide)

/-! ### expressions in short: the name that stands in the i-th slot -/
section
variable {X : Cx}
theorem pv (i : Nat) {x : Str} {pos : Pos} (hN : X.N[i]? = some x := by rfl) (hv : Vis X.env.scope x := by first | exact Or.inl rfl | exact Or.inr (Or.inl rfl) | exact Or.inr (Or.inr rfl)) (hd : (x == ("__debug__" : Str)) = false := by decide)
    (hcd : (x == ("__classdict__" : Str)) = false := by decide) : PE X (.Name x pos) (tVar i) := pe_var hN hv hd hcd
end

/-! ### tests -/
theorem iteF {A B : Prop} (h : B) : if false = true then A else B := by
  rw [if_neg Bool.false_ne_true]
  exact h
theorem iteT {A B : Prop} (h : A) : if true = true then A else B := by
  rw [if_pos rfl]
  exact h
theorem ite2 {c A B : Prop} [Decidable c] (h1 : c → A) (h2 : ¬ c → B) : if c then A else B := by
  by_cases h : c
  · rw [if_pos h]
    exact h1 h
  · rw [if_neg h]
    exact h2 h
theorem iteNS {c A B : Prop} [Decidable c] (hc : c) (h : B) : if (!decide c) = true then A else B := by
  rw [decide_eq_true hc]
  exact iteF h

/-! ### heaps -/
/-- all that was tracked is as it was -/
def Same (H H' : Hp) : Prop := ∀ b o, H b = some o → H' b = some o
theorem Same.refl (H : Hp) : Same H H := fun _ _ h => h
theorem Same.trans {H H1 H2 : Hp} (a : Same H H1) (b : Same H1 H2) : Same H H2 := fun c o h => b c o (a c o h)
theorem Same.free {H H' : Hp} (e : Same H H') {l : Addr} (h : H' l = Option.none) : H l = Option.none := by
  cases q : H l with
  | none => rfl
  | some o =>
    rw [e l o q] at h
    cases h
theorem Same.seq {K : PySem.W.Frag} {H H' : Hp} {a : Addr} {xs : List V} (e : Same H H') (h : SqL K H a xs) : SqL K H' a xs := by
  rcases h with (h | ⟨o, h⟩) | h
  · exact .inl (.inl (e _ _ h))
  · exact .inl (.inr ⟨o, e _ _ h⟩)
  · exact .inr h

end L2


/-! DICTS -/
namespace L2
open PySem PySem.Spec PyProof.Rows

/-! ### lists of pairs as tables -/
section
variable {κ : Type} [DecidableEq κ]
def valV (kvs : List (κ × V)) (k : κ) : Option V := (kvs.find? fun kv => decide (kv.1 = k)).map (·.2)
/-- in its place, or at the end -/
def putK (kvs : List (κ × V)) (k : κ) (v : V) : List (κ × V) :=
  if (kvs.any fun kv => decide (kv.1 = k)) = true then kvs.map (fun kv => if kv.1 = k then (kv.1, v) else kv) else kvs ++ [(k, v)]
def dropK (kvs : List (κ × V)) (k : κ) : List (κ × V) := kvs.filter fun kv => decide (kv.1 ≠ k)

theorem valV_nil {k : κ} : valV ([] : List (κ × V)) k = none := rfl
theorem valV_pos {p : κ × V} {r : List (κ × V)} {k : κ} (e : p.1 = k) : valV (p :: r) k = some p.2 := by simp [valV, List.find?_cons, e]
theorem valV_neg {p : κ × V} {r : List (κ × V)} {k : κ} (e : ¬ p.1 = k) : valV (p :: r) k = valV r k := by simp [valV, List.find?_cons, e]
theorem valV_any (k : κ) : ∀ kvs : List (κ × V), (kvs.any fun kv => decide (kv.1 = k)) = (valV kvs k).isSome
  | [] => rfl
  | p :: r => by
    rw [List.any_cons]
    by_cases e : p.1 = k
    · simp only [valV_pos e, decide_eq_true e, Bool.true_or, Option.isSome_some]
    · rw [valV_neg e, decide_eq_false e, Bool.false_or]; exact valV_any k r
theorem valV_map (k j : κ) (y : V) : ∀ kvs : List (κ × V), valV (kvs.map fun kv => if kv.1 = k then (kv.1, y) else kv) j = (valV kvs j).map fun x => if j = k then y else x
  | [] => rfl
  | p :: r => by
    have ih := valV_map k j y r
    rw [List.map_cons]
    by_cases h : p.1 = k
    · rw [if_pos h]
      by_cases e : p.1 = j
      · rw [valV_pos (p := (p.1, y)) e, valV_pos e, Option.map_some, if_pos (e.symm.trans h)]
      · rw [valV_neg (p := (p.1, y)) e, valV_neg e, ih]
    · rw [if_neg h]
      by_cases e : p.1 = j
      · rw [valV_pos (p := p) e, valV_pos e, Option.map_some, if_neg (fun z => h (e.trans z))]
      · rw [valV_neg (p := p) e, valV_neg e, ih]
theorem valV_snoc (k j : κ) (y : V) : ∀ kvs : List (κ × V), valV kvs k = none → valV (kvs ++ [(k, y)]) j = if j = k then some y else valV kvs j
  | [], _ => by
    by_cases e : k = j
    · rw [if_pos e.symm]; exact valV_pos (p := (k, y)) e
    · rw [if_neg (fun z => e z.symm)]; exact valV_neg (p := (k, y)) e
  | p :: r, hn => by
    rw [List.cons_append]
    have hk : ¬ p.1 = k := fun z => by rw [valV_pos z] at hn; cases hn
    rw [valV_neg hk] at hn
    have ih := valV_snoc k j y r hn
    by_cases e : p.1 = j
    · rw [valV_pos e, valV_pos e, if_neg (fun z => hk (e.trans z))]
    · rw [valV_neg e, valV_neg e, ih]
theorem valV_put (kvs : List (κ × V)) (k j : κ) (y : V) : valV (putK kvs k y) j = if j = k then some y else valV kvs j := by
  unfold putK
  by_cases a : (kvs.any fun kv => decide (kv.1 = k)) = true
  · rw [if_pos a, valV_map]
    rw [valV_any] at a
    by_cases e : j = k
    · obtain ⟨x, hx⟩ := Option.isSome_iff_exists.mp a
      rw [if_pos e, e, hx, Option.map_some, if_pos rfl]
    · rw [if_neg e]
      cases valV kvs j with
      | none => rfl
      | some x => rw [Option.map_some, if_neg e]
  · rw [if_neg a]
    refine valV_snoc k j y kvs ?_
    rw [valV_any] at a
    cases q : valV kvs k with
    | none => rfl
    | some x => rw [q] at a; exact (a rfl).elim
theorem length_putK (kvs : List (κ × V)) (k : κ) (v : V) : (putK kvs k v).length ≤ kvs.length + 1 := by
  unfold putK
  split
  · rw [List.length_map]; omega
  · rw [List.length_append, List.length_cons, List.length_nil]; omega
theorem putK_new {kvs : List (κ × V)} {k : κ} (v : V) (h : valV kvs k = none) : putK kvs k v = kvs ++ [(k, v)] := by
  unfold putK
  rw [valV_any, h]
  exact if_neg (by decide)

theorem RelO.isSome_eq {o : Option V} {u : Option Value} (r : RelO o u) : o.isSome = u.isSome := by
  cases o with
  | none => cases u with
    | none => rfl
    | some _ => exact (show False from r).elim
  | some _ => cases u with
    | none => exact (show False from r).elim
    | some _ => rfl
theorem RelO.getD {o : Option V} {u : Option Value} {d : V} {d' : Value} (r : RelO o u) (rd : RelV d d') : RelV (o.getD d) (u.getD d') := by
  cases o with
  | none => cases u with
    | none => exact rd
    | some _ => exact (show False from r).elim
  | some _ => cases u with
    | none => exact (show False from r).elim
    | some _ => exact r

/-- raw tables of the same keys -/
theorem KV.val {kvs : List (κ × V)} {vs : List (κ × Value)} (r : KV kvs vs) (k : κ) : RelO (valV kvs k) (valueAt vs k) := by
  unfold KV at r
  induction r with
  | nil => exact True.intro
  | @cons p q ps qs h t ih =>
    obtain ⟨h1, h2⟩ := h
    by_cases e : p.1 = k
    · have e' : q.1 = k := h1.symm.trans e
      have b : valueAt (q :: qs) k = some q.2 := by simp [valueAt, List.find?_cons, e']
      rw [valV_pos e, b]; exact h2
    · have e' : ¬ q.1 = k := fun z => e (h1.trans z)
      have b : valueAt (q :: qs) k = valueAt qs k := by simp [valueAt, List.find?_cons, e']
      rw [valV_neg e, b]; exact ih
theorem KV.any {kvs : List (κ × V)} {vs : List (κ × Value)} (r : KV kvs vs) (k : κ) : (kvs.any fun kv => decide (kv.1 = k)) = vs.any fun kv => decide (kv.1 = k) := by
  unfold KV at r
  induction r with
  | nil => rfl
  | cons h t ih => rw [List.any_cons, List.any_cons, ih, h.1]
theorem KV.repl {kvs : List (κ × V)} {vs : List (κ × Value)} (r : KV kvs vs) (k : κ) {y : V} {u : Value} (ry : RelV y u) :
    KV (kvs.map fun kv => if kv.1 = k then (kv.1, y) else kv) (vs.map fun kv => if kv.1 = k then (kv.1, u) else kv) := by
  unfold KV at r ⊢
  induction r with
  | nil => exact .nil
  | @cons p q ps qs h t ih =>
    rw [List.map_cons, List.map_cons]
    refine .cons ?_ ih
    obtain ⟨h1, h2⟩ := h
    by_cases e : p.1 = k
    · rw [if_pos e, if_pos (h1.symm.trans e)]; exact ⟨h1, ry⟩
    · rw [if_neg e, if_neg (fun z => e (h1.trans z))]; exact ⟨h1, h2⟩
theorem KV.put {kvs : List (κ × V)} {vs : List (κ × Value)} (r : KV kvs vs) (k : κ) {y : V} {u : Value} (ry : RelV y u) : KV (putK kvs k y) (stored vs k u) := by
  unfold putK stored
  rw [r.any k]
  by_cases e : (vs.any fun kv => decide (kv.1 = k)) = true
  · rw [if_pos e, if_pos e]; exact r.repl k ry
  · rw [if_neg e, if_neg e]; exact Paired.snoc r ⟨rfl, ry⟩
theorem KV.drop {kvs : List (κ × V)} {vs : List (κ × Value)} (r : KV kvs vs) (k : κ) : KV (dropK kvs k) (without vs k) := by
  unfold KV at r ⊢
  unfold dropK without
  induction r with
  | nil => exact .nil
  | @cons p q ps qs h t ih =>
    obtain ⟨h1, h2⟩ := h
    rw [List.filter_cons, List.filter_cons]
    by_cases e : p.1 = k
    · have a : ¬ decide (p.1 ≠ k) = true := by simp [e]
      have b : ¬ decide (q.1 ≠ k) = true := by simp [h1.symm.trans e]
      rw [if_neg a, if_neg b]; exact ih
    · have e' : ¬ q.1 = k := fun z => e (h1.trans z)
      have a : decide (p.1 ≠ k) = true := by simp [e]
      have b : decide (q.1 ≠ k) = true := by simp [e']
      rw [if_pos a, if_pos b]; exact .cons ⟨h1, h2⟩ ih
theorem KV.keys {kvs : List (κ × V)} {vs : List (κ × Value)} (r : KV kvs vs) : kvs.map (·.1) = vs.map (·.1) := by
  unfold KV at r
  induction r with
  | nil => rfl
  | cons h t ih => rw [List.map_cons, List.map_cons, ih, h.1]
theorem KV.length {kvs : List (κ × V)} {vs : List (κ × Value)} (r : KV kvs vs) : kvs.length = vs.length := Paired.length r
theorem dropK_le (kvs : List (κ × V)) (k : κ) : (dropK kvs k).length ≤ kvs.length := List.length_filter_le _ _
end


/-! ### a tracked dict, its keys ints and texts or tuples of these -/
theorem kV_is {P : Program} {w : World} {k : Key} {u : Value} (r : RelV (kV k) u) : (mixKind P w).is k u = true := by
  cases k with
  | inl i => obtain ⟨t, e⟩ := (show ∃ t, u = Value.int i t from r); subst e; exact mixKind_int P w i t
  | inr x => obtain ⟨t, e⟩ := (show ∃ t, u = Value.str x t from r); subst e; exact mixKind_str P w x t
theorem kV_inj {a b : Key} (e : kV a = kV b) : a = b := by
  cases a with
  | inl i => cases b with
    | inl j => have e' : V.int i = V.int j := e; injection e' with e'; rw [e']
    | inr y => exact nomatch (show V.int i = V.str y from e)
  | inr x => cases b with
    | inl j => exact nomatch (show V.str x = V.int j from e)
    | inr y => have e' : V.str x = V.str y := e; injection e' with e'; rw [e']
theorem kVs_inj : ∀ {a b : List Key}, a.map kV = b.map kV → a = b
  | [], [], _ => rfl
  | [], _ :: _, e => by simp at e
  | _ :: _, [], e => by simp at e
  | x :: xs, y :: ys, e => by
    rw [List.map_cons, List.map_cons] at e
    injection e with e1 e2
    rw [kV_inj e1, kVs_inj e2]
theorem items_are {P : Program} {w : World} : ∀ {ks : List Key} {us : List Value}, Vals (ks.map kV) us → ItemsAre (mixKind P w) ks us
  | [], _, r => by rw [List.map_nil] at r; cases r; exact .nil
  | k :: ks, _, r => by
    rw [List.map_cons] at r
    cases r with
    | cons h t => exact .cons (kV_is h) (items_are t)

/-- raw entries of a dict with tuple keys -/
abbrev KT (H : Hp) : List (List Key × V) → List (List Key × Addr × Value) → Prop := Paired fun p q => p.1 = q.1 ∧ H q.2.1 = some (.tup (p.1.map kV)) ∧ RelV p.2 q.2.2
theorem KT.val {H : Hp} {kvs : List (List Key × V)} {xs : List (List Key × Addr × Value)} (r : KT H kvs xs) (k : List Key) : RelO (valV kvs k) ((atKey xs k).map (·.2)) := by
  induction r with
  | nil => exact True.intro
  | @cons p q ps qs h t ih =>
    obtain ⟨h1, _, h2⟩ := h
    by_cases e : p.1 = k
    · have e' : q.1 = k := h1.symm.trans e
      have b : atKey (q :: qs) k = some q.2 := by simp [atKey, List.find?_cons, e']
      rw [valV_pos e, b]; exact h2
    · have e' : ¬ q.1 = k := fun z => e (h1.trans z)
      have b : atKey (q :: qs) k = atKey qs k := by simp [atKey, List.find?_cons, e']
      rw [valV_neg e, b]; exact ih
theorem KT.repl {H : Hp} {kvs : List (List Key × V)} {xs : List (List Key × Addr × Value)} (r : KT H kvs xs) (k : List Key) {y : V} {u : Value} (ry : RelV y u) :
    KT H (kvs.map fun kv => if kv.1 = k then (kv.1, y) else kv) (xs.map (putAt k u)) := by
  induction r with
  | nil => exact .nil
  | @cons p q ps qs h t ih =>
    rw [List.map_cons, List.map_cons]
    refine .cons ?_ ih
    obtain ⟨h1, h2, h3⟩ := h
    unfold putAt
    by_cases e : p.1 = k
    · rw [if_pos e, if_pos (h1.symm.trans e)]; exact ⟨h1, h2, ry⟩
    · rw [if_neg e, if_neg (fun z => e (h1.trans z))]; exact ⟨h1, h2, h3⟩
theorem KT.put {H : Hp} {kvs : List (List Key × V)} {xs : List (List Key × Addr × Value)} (r : KT H kvs xs) (k : List Key) {b : Addr} {y : V} {u : Value} (hb : H b = some (.tup (k.map kV))) (ry : RelV y u) :
    KT H (putK kvs k y) (storedH xs k b u) := by
  have e : (kvs.any fun kv => decide (kv.1 = k)) = (atKey xs k).isSome := by
    rw [valV_any, (r.val k).isSome_eq, Option.isSome_map]
  unfold putK storedH
  rw [e]
  by_cases q : (atKey xs k).isSome = true
  · rw [if_pos q, if_pos q]; exact r.repl k ry
  · rw [if_neg q, if_neg q]; exact Paired.snoc r ⟨rfl, hb, ry⟩
theorem KT.keeps {H H' : Hp} {kvs : List (List Key × V)} {xs : List (List Key × Addr × Value)} (r : KT H kvs xs) (ht : ∀ b ys, H b = some (.tup ys) → H' b = some (.tup ys)) : KT H' kvs xs :=
  Paired.mapP r fun _ _ z => ⟨z.1, ht _ _ z.2.1, z.2.2⟩

section
variable {P : Program} {w : World} {H : Hp} {h : Heap} {a : Addr}
theorem rd_of {u : HO} (ok : HOk P w H h) (e : Rd H a u) : ObjOk P w H h a u := e.ok ok
theorem dk_rd {kvs : List (Key × V)} (ok : HOk P w H h) (e : Rd H a (.dK kvs)) : kvs.length ≤ sizeLine ∧ (a == sysModules) = false ∧ ∃ vs, KV kvs vs ∧ h.DictOf (mixKind P w) a vs :=
  show ObjOk P w H h a (.dK kvs) from rd_of ok e
theorem dk_of {kvs : List (Key × V)} (ok : HOk P w H h) (e : H a = some (.dK kvs)) : kvs.length ≤ sizeLine ∧ (a == sysModules) = false ∧ ∃ vs, KV kvs vs ∧ h.DictOf (mixKind P w) a vs := dk_rd ok (.inl e)
/-- a tracked tuple of ints and texts is a key -/
theorem key_of {ks : List Key} (ok : HOk P w H h) (e : H a = some (.tup (ks.map kV))) : (tupleKind (mixKind P w)).is h ks a := by
  obtain ⟨_, its, r, o, h1, h2, n, h3⟩ := (show ObjOk P w H h a (.tup (ks.map kV)) from ok a _ e)
  exact ⟨o, its.toArray, n, h1, h2, h3, by simpa using items_are r⟩
theorem dt_rd {kvs : List (List Key × V)} (ok : HOk P w H h) (e : Rd H a (.dT kvs)) : kvs.length ≤ sizeLine ∧ (a == sysModules) = false ∧
    ∃ xs, KT H kvs xs ∧ h.DictOfH (tupleKind (mixKind P w)) a xs := by
  obtain ⟨z, y, xs, r, o, es, ep, h1, h2, h3, h4, h5⟩ := (show ObjOk P w H h a (.dT kvs) from rd_of ok e)
  refine ⟨z, y, xs, r, o, es, ep, h1, h2, h3, h4, fun x hx => ?_, h5⟩
  have all : ∀ {l : List (List Key × V)} {m : List (List Key × Addr × Value)}, KT H l m → ∀ x ∈ m, (tupleKind (mixKind P w)).is h x.1 x.2.1 := by
    intro l m q
    induction q with
    | nil => intro x hx; exact nomatch hx
    | @cons p q ps qs hq t ih =>
      intro x hx
      rcases List.mem_cons.mp hx with e | hx
      · subst e
        exact key_of ok (by rw [← hq.1]; exact hq.2.1)
      · exact ih x hx
  exact all r x hx
theorem dt_of {kvs : List (List Key × V)} (ok : HOk P w H h) (e : H a = some (.dT kvs)) : kvs.length ≤ sizeLine ∧ (a == sysModules) = false ∧
    ∃ xs, KT H kvs xs ∧ h.DictOfH (tupleKind (mixKind P w)) a xs := dt_rd ok (.inl e)
end

/-- what the dict at a holds at the key y -/
def DGet (H : Hp) (a : Addr) (y : V) (r : Option V) : Prop :=
  (∃ kvs k, Rd H a (.dK kvs) ∧ y = kV k ∧ r = valV kvs k) ∨ ∃ kvs k b, Rd H a (.dT kvs) ∧ y = .ref b ∧ H b = some (.tup (k.map kV)) ∧ r = valV kvs k
/-- the heap behind a[y] = v -/
def DPut (H : Hp) (a : Addr) (y v : V) (H' : Hp) : Prop :=
  (∃ kvs k, H a = some (.dK kvs) ∧ y = kV k ∧ kvs.length < sizeLine ∧ H' = upd H a (.dK (putK kvs k v))) ∨
  ∃ kvs k b, H a = some (.dT kvs) ∧ y = .ref b ∧ H b = some (.tup (k.map kV)) ∧ kvs.length < sizeLine ∧ H' = upd H a (.dT (putK kvs k v))
theorem DGet.k {H : Hp} {a : Addr} {kvs : List (Key × V)} {k : Key} (e : H a = some (.dK kvs)) : DGet H a (kV k) (valV kvs k) := .inl ⟨kvs, k, .inl e, rfl, rfl⟩
theorem DGet.t {H : Hp} {a b : Addr} {kvs : List (List Key × V)} {k : List Key} (e : H a = some (.dT kvs)) (eb : H b = some (.tup (k.map kV))) : DGet H a (.ref b) (valV kvs k) := .inr ⟨kvs, k, b, .inl e, rfl, eb, rfl⟩
theorem DPut.k {H : Hp} {a : Addr} {kvs : List (Key × V)} {k : Key} {v : V} (e : H a = some (.dK kvs)) (hl : kvs.length < sizeLine) : DPut H a (kV k) v (upd H a (.dK (putK kvs k v))) := .inl ⟨kvs, k, e, rfl, hl, rfl⟩
theorem DPut.t {H : Hp} {a b : Addr} {kvs : List (List Key × V)} {k : List Key} {v : V} (e : H a = some (.dT kvs)) (eb : H b = some (.tup (k.map kV))) (hl : kvs.length < sizeLine) :
    DPut H a (.ref b) v (upd H a (.dT (putK kvs k v))) := .inr ⟨kvs, k, b, e, rfl, eb, hl, rfl⟩


section
variable {X : Cx} {pins : List (Addr × Obj)} {σ : St} {H : Hp} {s : Shared} {a : Addr} {y v : V} {u r : Value} {o : Option V} {A : Around} {E : Value → Shared → Prop}

theorem Inv.big (I : Inv X pins σ H s) : sysModules < s.heap.objs.size := by
  have h : mainGlobals < s.heap.objs.size := (I.mod.glob.keeps I.bk).lt
  exact Nat.lt_trans (by decide) h

/-- d[y], there -/
theorem d_getItem {Q : Value → Shared → Prop} (hu : A.units + 1 < cLine) (I : Inv X pins σ H s) (g : DGet H a y (some v)) (ry : RelV y u) (h : ∀ w' s', Inv X pins σ H s' → RelV v w' → Q w' s') :
    wpAny (model X.prog X.w) A (getItem (.ref a) u) Q E s := by
  rcases g with ⟨kvs, k, e, ey, l⟩ | ⟨kvs, k, b, e, ey, eb, l⟩
  · subst ey
    obtain ⟨z, hd, vs, rel, dd⟩ := dk_rd I.hok e
    obtain ⟨w', hw, rw'⟩ := RelO.some_of (v := v) (o := valueAt vs k) (by rw [l]; exact rel.val k)
    exact wpAny_getItem_of (kV_is ry) dd.mapOf hw (h w' _ (I.tok _) rw')
  · subst ey
    cases (show u = Value.ref b from ry)
    obtain ⟨z, hd, xs, rel, dd⟩ := dt_rd I.hok e
    obtain ⟨w', hw, rw'⟩ := RelO.some_of (v := v) (o := (atKey xs k).map (·.2)) (by rw [l]; exact rel.val k)
    obtain ⟨p, hp, hp2⟩ := Option.map_eq_some_iff.mp hw
    refine wpAny_getItem_heap (tupleKind_room_in1 hu) (key_of I.hok eb) dd hp ?_
    rw [hp2]
    exact h w' _ (I.tok _) rw'
/-- y in d -/
theorem d_in {Q : Value → Shared → Prop} (hu : A.units + 1 < cLine) (I : Inv X pins σ H s) (g : DGet H a y o) (ry : RelV y u) (h : ∀ s', Inv X pins σ H s' → Q (.bool o.isSome) s') :
    wpAny (model X.prog X.w) A (compareOp .In u (.ref a)) Q E s := by
  rcases g with ⟨kvs, k, e, ey, l⟩ | ⟨kvs, k, b, e, ey, eb, l⟩
  · subst ey
    obtain ⟨z, hd, vs, rel, dd⟩ := dk_rd I.hok e
    refine wpAny_in_of (kV_is ry) hd dd.mapOf ?_
    rw [← (rel.val k).isSome_eq, ← l]
    exact h _ (I.tok _)
  · subst ey
    cases (show u = Value.ref b from ry)
    obtain ⟨z, hd, xs, rel, dd⟩ := dt_rd I.hok e
    refine wpAny_in_heap (tupleKind_room_in1 hu) (key_of I.hok eb) hd dd ?_
    have q := (rel.val k).isSome_eq
    rw [Option.isSome_map] at q
    rw [← q, ← l]
    exact h _ (I.tok _)
theorem d_notIn {Q : Value → Shared → Prop} (hu : A.units + 1 < cLine) (I : Inv X pins σ H s) (g : DGet H a y o) (ry : RelV y u) (h : ∀ s', Inv X pins σ H s' → Q (.bool (!o.isSome)) s') :
    wpAny (model X.prog X.w) A (compareOp .NotIn u (.ref a)) Q E s := by
  rcases g with ⟨kvs, k, e, ey, l⟩ | ⟨kvs, k, b, e, ey, eb, l⟩
  · subst ey
    obtain ⟨z, hd, vs, rel, dd⟩ := dk_rd I.hok e
    refine wpAny_notIn_of (kV_is ry) hd dd.mapOf ?_
    rw [← (rel.val k).isSome_eq, ← l]
    exact h _ (I.tok _)
  · subst ey
    cases (show u = Value.ref b from ry)
    obtain ⟨z, hd, xs, rel, dd⟩ := dt_rd I.hok e
    refine wpAny_notIn_heap (tupleKind_room_in1 hu) (key_of I.hok eb) hd dd ?_
    have q := (rel.val k).isSome_eq
    rw [Option.isSome_map] at q
    rw [← q, ← l]
    exact h _ (I.tok _)
/-- a dict's object is replaced -/
theorem d_write {h' : Heap} {t' : Nat} {ob : HO} (I : Inv X pins σ H s) (mu : Mut (H a)) (hs : Heap.SameBut a s.heap h') (he : ∃ q, h'.get? a = some q) (new : ObjOk X.prog X.w (upd H a ob) h' a ob) :
    Inv X pins σ (upd H a ob) { s with heap := h', toks := t' } :=
  I.write (x := a) (e := a) mu (.inl rfl) (fun b q hb z => (hs.2 b hb).trans z) he new
theorem dk_new {P : Program} {w : World} {H' : Hp} {h' : Heap} {kvs : List (Key × V)} {vs : List (Key × Value)} (z : kvs.length ≤ sizeLine) (hd : (a == sysModules) = false) (rel : KV kvs vs) (dd : h'.DictOf (mixKind P w) a vs) :
    ObjOk P w H' h' a (.dK kvs) := ⟨z, hd, vs, rel, dd⟩
/-- d[y] = v -/
theorem d_setItem {H' : Hp} {Q : Unit → Shared → Prop} (hu : A.units + 1 < cLine) (I : Inv X pins σ H s) (g : DPut H a y v H') (ry : RelV y u) (rv : RelV v r) (h : ∀ s', Inv X pins σ H' s' → Q () s') :
    wpAny (model X.prog X.w) A (setItem (.ref a) u r) Q E s := by
  rcases g with ⟨kvs, k, e, ey, l, eH⟩ | ⟨kvs, k, b, e, ey, eb, l, eH⟩
  · subst ey eH
    obtain ⟨z, hd, vs, rel, dd⟩ := dk_of I.hok e
    have hz : vs.length ≤ sizeLine := by rw [← rel.length]; exact z
    have hl : (putK kvs k v).length ≤ sizeLine := by have := length_putK kvs k v; omega
    refine wpAny_setItem_pairs (hsz := hz) (kV_is ry) dd fun h' dd' hs => h _ ?_
    have he : ∃ q, h'.get? a = some q := let ⟨q, _, _, hq, _⟩ := dd'; ⟨q, hq⟩
    exact d_write I (by rw [e]; exact True.intro) hs he (dk_new hl hd (rel.put k rv) dd')
  · subst ey eH
    cases (show u = Value.ref b from ry)
    obtain ⟨z, hd, xs, rel, dd⟩ := dt_of I.hok e
    have hz : xs.length ≤ sizeLine := by rw [← Paired.length rel]; exact z
    have hl : (putK kvs k v).length ≤ sizeLine := by have := length_putK kvs k v; omega
    refine wpAny_setItem_heap (hsz := hz) (tupleKind_room_in1 hu) (key_of I.hok eb) dd fun h' dd' hs => h _ ?_
    obtain ⟨q, es, ep, hq, h2, h3, h4, _, h5⟩ := dd'
    refine d_write I (by rw [e]; exact True.intro) hs ⟨q, hq⟩ ⟨hl, hd, _, (rel.put k eb rv).keeps fun c ys ec => ?_, q, es, ep, hq, h2, h3, h4, h5⟩
    rw [upd_ne (ne_of ec e (fun z => nomatch z))]
    exact ec
end

section
variable {X : Cx} {pins : List (Addr × Obj)} {σ : St} {H : Hp} {s : Shared} {a : Addr} {kvs : List (Key × V)} {k : Key} {u : Value} {A : Around} {E : Value → Shared → Prop}
/-- del d[k] -/
theorem d_delItem {Q : Unit → Shared → Prop} (I : Inv X pins σ H s) (e : H a = some (.dK kvs)) (ry : RelV (kV k) u) (l : (valV kvs k).isSome = true) (h : ∀ s', Inv X pins σ (upd H a (.dK (dropK kvs k))) s' → Q () s') :
    wpAny (model X.prog X.w) A (delItem (.ref a) u) Q E s := by
  obtain ⟨z, hd, vs, rel, dd⟩ := dk_of I.hok e
  refine wpAny_delItem_slot dd.typeIs (by decide) PySem.F.slot_dict_delitem
    (call_meetsIn PySem.F.slot_dict_delitem dd.typeIs PySem.F.entry_dict_delitem (PySem.F.args_dict_delitem_2 _ _) (meets_dict_delitem_pairs (mixKind X.prog X.w) a (kV_is ry)) ⟨vs, dd, by rw [← rel.length]; exact z, by rw [← (rel.val k).isSome_eq]; exact l, fun h' dd' hs => h _ ?_⟩)
  have he : ∃ q, h'.get? a = some q := let ⟨q, _, _, hq, _⟩ := dd'; ⟨q, hq⟩
  exact d_write I (by rw [e]; exact True.intro) hs he (dk_new (Nat.le_trans (dropK_le kvs k) z) hd (rel.drop k) dd')
/-- d.pop(k[, x]), there -/
theorem d_pop {v : V} {more : List Value} {Q : Value → Shared → Prop} (I : Inv X pins σ H s) (e : H a = some (.dK kvs)) (ry : RelV (kV k) u) (l : valV kvs k = some v) (hm : more = [] ∨ ∃ x, more = [x])
    (h : ∀ w' s', Inv X pins σ (upd H a (.dK (dropK kvs k))) s' → RelV v w' → Q w' s') : wpAny (model X.prog X.w) A (call (.builtin "dict.pop") (.ref a :: u :: more)) Q E s := by
  obtain ⟨z, hd, vs, rel, dd⟩ := dk_of I.hok e
  obtain ⟨w', hw, rw'⟩ := RelO.some_of (v := v) (o := valueAt vs k) (by rw [← l]; exact rel.val k)
  have hp : (keyPart u).isSome = true := by
    cases k with
    | inl i => obtain ⟨t, q⟩ := (show ∃ t, u = Value.int i t from ry); subst q; rfl
    | inr x => obtain ⟨t, q⟩ := (show ∃ t, u = Value.str x t from ry); subst q; rfl
  have ha : argsOk "dict.pop" ⟨.ref a :: u :: more, []⟩ := by
    rcases hm with q | ⟨x, q⟩
    · subst q; exact PySem.F.args_dict_pop_2 _ _
    · subst q; exact PySem.F.args_dict_pop_3 _ _ _
  refine call_meetsIn PySem.F.slot_dict_pop dd.typeIs PySem.F.entry_dict_pop ha (meets_dict_pop_there (mixKind X.prog X.w) a (kV_is ry) more hm hp)
    ⟨vs, w', dd, by rw [← rel.length]; exact z, hw, fun h' dd' hs => h w' _ ?_ rw'⟩
  have he : ∃ q, h'.get? a = some q := let ⟨q, _, _, hq, _⟩ := dd'; ⟨q, hq⟩
  exact d_write I (by rw [e]; exact True.intro) hs he (dk_new (Nat.le_trans (dropK_le kvs k) z) hd (rel.drop k) dd')
/-- d.pop(k, x), not there -/
theorem d_popD {r : Value} {Q : Value → Shared → Prop} (I : Inv X pins σ H s) (e : H a = some (.dK kvs)) (ry : RelV (kV k) u) (l : valV kvs k = none) (h : ∀ s', Inv X pins σ H s' → Q r s') :
    wpAny (model X.prog X.w) A (call (.builtin "dict.pop") [.ref a, u, r]) Q E s := by
  obtain ⟨z, hd, vs, rel, dd⟩ := dk_of I.hok e
  have hn : valueAt vs k = none := RelO.none_of (by rw [← l]; exact rel.val k)
  have hp : (keyPart u).isSome = true := by
    cases k with
    | inl i => obtain ⟨t, q⟩ := (show ∃ t, u = Value.int i t from ry); subst q; rfl
    | inr x => obtain ⟨t, q⟩ := (show ∃ t, u = Value.str x t from ry); subst q; rfl
  exact call_meetsIn PySem.F.slot_dict_pop dd.typeIs PySem.F.entry_dict_pop (PySem.F.args_dict_pop_3 _ _ _) (meets_dict_pop_default (mixKind X.prog X.w) a (kV_is ry) hd hp r) ⟨vs, dd, hn, h _ (I.tok _)⟩
/-- d.clear() -/
theorem d_clear {Q : Value → Shared → Prop} (I : Inv X pins σ H s) (e : H a = some (.dK kvs)) (h : ∀ s', Inv X pins σ (upd H a (.dK [])) s' → Q .none s') : wpAny (model X.prog X.w) A (call (.builtin "dict.clear") [.ref a]) Q E s := by
  obtain ⟨z, hd, vs, rel, dd⟩ := dk_of I.hok e
  refine call_meetsIn PySem.F.slot_dict_clear dd.typeIs PySem.F.entry_dict_clear (PySem.F.args_dict_clear_1 _) (meets_dict_clear (mixKind X.prog X.w) a) ⟨vs, dd, by rw [← rel.length]; exact z, fun h' dd' hs => h _ ?_⟩
  have he : ∃ q, h'.get? a = some q := let ⟨q, _, _, hq, _⟩ := dd'; ⟨q, hq⟩
  exact d_write (t' := s.toks) I (by rw [e]; exact True.intro) hs he (dk_new (Nat.zero_le _) hd .nil dd')
/-- len(d) -/
theorem d_len {Q : Value → Shared → Prop} (I : Inv X pins σ H s) (e : Rd H a (.dK kvs)) (h : ∀ t s', Inv X pins σ H s' → Q (.int kvs.length t) s') : wpAny (model X.prog X.w) A (call (.builtin "len") [.ref a]) Q E s := by
  obtain ⟨z, hd, vs, rel, dd⟩ := dk_rd I.hok e
  refine call_len_dict hd dd (by rw [← rel.length]; rw [sizeLine_eq] at z; omega) ?_
  rw [← rel.length]
  exact h _ _ (I.tok _)
/-- if d -/
theorem d_truth {Q : Bool → Shared → Prop} (I : Inv X pins σ H s) (e : Rd H a (.dK kvs)) (h : ∀ s', Inv X pins σ H s' → Q (!kvs.isEmpty) s') : wpAny (model X.prog X.w) A (truthy (.ref a)) Q E s := by
  obtain ⟨z, hd, vs, rel, dd⟩ := dk_rd I.hok e
  refine wpAny_truthy_dict hd dd (by rw [← rel.length]; rw [sizeLine_eq] at z; omega) ?_
  have q : kvs.isEmpty = vs.isEmpty := by cases rel <;> rfl
  rw [← q]
  exact h _ (I.tok _)
end


/-! ### readings and rules -/
/-- the element of a subscription, not a slice -/
def NoSl (i : Expr) : Prop := ∀ ov iv, subscripted i false ov iv = operate [ov, iv] (getItem ov iv)
theorem subD_of {prog : Program} {w : World} {A : Around} {E : Value → Shared → Prop} {s : Shared} {env : Env} {value slice : Expr} {pos : Pos} {T id : String} {Q : Value → Shared → Prop}
    (hl : typeLookup (.type T) "__getitem__" = pure (some (.builtin id))) (hs : NoSl slice)
    (h : wpAny (model prog w) A (eval value env) (fun o s₁ => wpAny (model prog w) A (eval slice env) (fun i s₂ => s₂.TypeIs o T ∧ wpAny (model prog w) A (getItem o i) Q E s₂) E s₁) E s) :
    wpAny (model prog w) A (eval (.Subscript value slice pos) env) Q E s := by
  refine Subscript_ (wpAny_mono h (fun o s₁ h₁ => wpAny_mono h₁ (fun i s₂ h₂ => ?_) fun _ _ x => x) fun _ _ x => x)
  obtain ⟨hT, h₂⟩ := h₂
  unfold subscriptTail
  refine wpAny_bind ?_
  rw [getitemInPython_of_ne hT.not_modules]
  refine wpAny_bind (wpAny_specialOf hT hl ?_)
  have fin : wpAny (model prog w) A (subscripted slice false o i) (fun r s₃ => wpAny (model prog w) A (letTemporaryGo value o r >>= fun _ => pure r) Q E s₃) E s₂ := by
    rw [hs o i]
    exact wpAny_operating (wpAny_mono h₂ (fun r s₃ h₃ => wpAny_bind (wpAny_letTemporaryGo (wpAny_pure h₃))) fun _ _ x => x)
  first
    | exact wpAny_pure (wpAny_bind fin)
    | exact wpAny_bind (wpAny_pure (wpAny_bind fin))
    | exact wpAny_bind fin

theorem dict_typeIs {X : Cx} {pins : List (Addr × Obj)} {σ : St} {H : Hp} {s : Shared} {a : Addr} {y : V} {o : Option V} (I : Inv X pins σ H s) (g : DGet H a y o) : s.TypeIs (.ref a) "dict" := by
  rcases g with ⟨kvs, k, e, _, _⟩ | ⟨kvs, k, b, e, _, _, _⟩
  · obtain ⟨_, _, vs, _, dd⟩ := dk_rd I.hok e
    exact dd.typeIs
  · obtain ⟨_, _, xs, _, dd⟩ := dt_rd I.hok e
    exact dd.typeIs
theorem dict_noDict {X : Cx} {pins : List (Addr × Obj)} {σ : St} {H : Hp} {s : Shared} {a : Addr} {y : V} {o : Option V} (I : Inv X pins σ H s) (g : DGet H a y o) :
    ∀ b, Value.ref a = .ref b → ∃ ob, s.heap.get? b = some ob ∧ ob.dict = none := fun b q => by
  cases q
  rcases g with ⟨kvs, k, e, _, _⟩ | ⟨kvs, k, b, e, _, _, _⟩
  · obtain ⟨_, _, vs, _, ob, _, _, h1, h2, _⟩ := dk_rd I.hok e
    exact ⟨ob, h1, h2.2.1⟩
  · obtain ⟨_, _, xs, _, ob, _, _, h1, h2, _⟩ := dt_rd I.hok e
    exact ⟨ob, h1, h2.2.1⟩

/-- d[y] -/
def tDGet (td ty : TE) : TE := fun σ H Q => td σ H fun x H1 => ty σ H1 fun y H2 => ∃ a v, x = .ref a ∧ DGet H2 a y (some v) ∧ Q v H2
/-- y in d, y not in d -/
def tDIn (ty td : TE) : TE := fun σ H Q => ty σ H fun y H1 => td σ H1 fun x H2 => ∃ a o, x = .ref a ∧ DGet H2 a y o ∧ Q (.bl o.isSome) H2
def tDNotIn (ty td : TE) : TE := fun σ H Q => ty σ H fun y H1 => td σ H1 fun x H2 => ∃ a o, x = .ref a ∧ DGet H2 a y o ∧ Q (.bl (!o.isSome)) H2
/-- d[y] = v -/
def sDPut (td ty tv : TE) : TS := fun D σ H => tv σ H fun v H1 => td σ H1 fun x H2 => ty σ H2 fun y H3 => ∃ a H4, x = .ref a ∧ DPut H3 a y v H4 ∧ D.nx σ H4
/-- d[y] op= v -/
def sDAug (td ty tv : TE) (rd : V → V → Hp → VK → Prop) : TS := fun D σ H => td σ H fun x H1 => ty σ H1 fun y H2 => ∃ a v, x = .ref a ∧ DGet H2 a y (some v) ∧
  tv σ H2 fun y2 H3 => rd v y2 H3 fun z H4 => ∃ H5, DPut H4 a y z H5 ∧ D.nx σ H5
/-- del d[y] -/
def sDDel (td ty : TE) : TS := fun D σ H => td σ H fun x H1 => ty σ H1 fun y H2 => ∃ a kvs k, x = .ref a ∧ H2 a = some (.dK kvs) ∧ y = kV k ∧ (valV kvs k).isSome = true ∧ D.nx σ (upd H2 a (.dK (dropK kvs k)))

section
variable {X : Cx} {o i e value : Expr} {pos pos' tpos : Pos} {td ty tv : TE}
theorem pe_dget (hu : X.A.units + 1 < cLine) (ho : PE X o td) (hi : PE X i ty) (hs : NoSl i) : PE X (.Subscript o i pos) (tDGet td ty) := by
  intro pins s σ H Q I h
  refine subD_of PySem.F.slot_dict_getitem.lookup hs (thn (ho pins s σ H _ I h) fun u s1 ⟨x, H1, I1, rx, q1⟩ => thn (hi pins s1 σ H1 _ I1 q1) fun iv s2 ⟨y, H2, I2, ry, a, v, ex, g, q2⟩ => ?_)
  subst ex
  obtain rfl : u = Value.ref a := rx
  exact ⟨dict_typeIs I2 g, d_getItem hu I2 g ry fun w' s3 I3 rw' => ⟨v, H2, I3, rw', q2⟩⟩
theorem pc_din (hu : X.A.units + 1 < cLine) (hi : PE X i ty) (ho : PE X o td) : PC X .In i o (tDIn ty td) := by
  intro pins s σ H Q I h
  refine thn (hi pins s σ H _ I h) fun iv s1 ⟨y, H1, I1, ry, q1⟩ => thn (ho pins s1 σ H1 _ I1 q1) fun u s2 ⟨x, H2, I2, rx, a, ov, ex, g, q2⟩ => ?_
  subst ex
  obtain rfl : u = Value.ref a := rx
  exact d_in hu I2 g ry fun s3 I3 => ⟨.bl ov.isSome, H2, I3, rfl, q2⟩
theorem pc_dnotin (hu : X.A.units + 1 < cLine) (hi : PE X i ty) (ho : PE X o td) : PC X .NotIn i o (tDNotIn ty td) := by
  intro pins s σ H Q I h
  refine thn (hi pins s σ H _ I h) fun iv s1 ⟨y, H1, I1, ry, q1⟩ => thn (ho pins s1 σ H1 _ I1 q1) fun u s2 ⟨x, H2, I2, rx, a, ov, ex, g, q2⟩ => ?_
  subst ex
  obtain rfl : u = Value.ref a := rx
  exact d_notIn hu I2 g ry fun s3 I3 => ⟨.bl (!ov.isSome), H2, I3, rfl, q2⟩
theorem ps_dput (hu : X.A.units + 1 < cLine) (ho : PE X o td) (hi : PE X i ty) (hv : PE X value tv) (hs : swapsWith value (some (.Subscript o i pos')) pos.line X.env = pure false) :
    PS X (.Assign [.Subscript o i pos'] value pos) (sDPut td ty tv) := by
  intro pins s σ H D I h
  refine wpAny_Assign_Subscript (thn (hv pins s σ H _ I h) fun r s1 ⟨v, H1, I1, rv, q1⟩ => thn (ho pins s1 σ H1 _ I1 q1) fun u s2 ⟨x, H2, I2, rx, q2⟩ => thn (hi pins s2 σ H2 _ I2 q2) fun iv s3 ⟨y, H3, I3, ry, a, H4, ex, g, q3⟩ => ?_) hs
  subst ex
  obtain rfl : u = Value.ref a := rx
  exact d_setItem hu I3 g ry rv fun s4 I4 => ⟨σ, H4, I4, q3⟩
theorem ps_daug {op : Operator} {rd : V → V → Hp → VK → Prop} (hu : X.A.units + 1 < cLine) (ho : PE X o td) (hi : PE X i ty) (hv : PE X value tv) (hop : InOp X op rd)
    (ha : ∀ ov iv new, augStore i ov iv new = (do holding [new, ov, iv] (setItem ov iv new); release [new, ov, iv] []; pure .next)) : PS X (.AugAssign (.Subscript o i tpos) op value pos) (sDAug td ty tv rd) := by
  intro pins s σ H D I h
  refine wpAny_AugAssign_SubscriptAny (thn (ho pins s σ H _ I h) fun u s1 ⟨x, H1, I1, rx, q1⟩ => thn (hi pins s1 σ H1 _ I1 q1) fun iv s2 ⟨y, H2, I2, ry, a, v, ex, g, q2⟩ => ?_) ha
  subst ex
  obtain rfl : u = Value.ref a := rx
  refine d_getItem hu I2 g ry fun w' s3 I3 rw' => thn (hv pins s3 σ H2 _ I3 q2) fun w2 s4 ⟨y2, H3, I4, ry2, q3⟩ => thn (hop pins s4 σ H3 v y2 w' w2 _ I4 rw' ry2 q3) fun w3 s5 ⟨z, H4, I5, rz, H5, g5, q4⟩ => ?_
  exact d_setItem hu I5 g5 ry rz fun s6 I6 => ⟨σ, H5, I6, q4⟩
theorem ps_ddel (ho : PE X o td) (hi : PE X i ty) : PS X (.Delete [.Subscript o i tpos] pos) (sDDel td ty) := by
  intro pins s σ H D I h
  refine wpAny_Delete (wpAny_deleteEach_cons (wpAny_delete_Subscript (thn (ho pins s σ H _ I h) fun u s1 ⟨x, H1, I1, rx, q1⟩ => thn (hi pins s1 σ H1 _ I1 q1) fun iv s2 ⟨y, H2, I2, ry, a, kvs, k, ex, e, ey, l, q2⟩ => ?_)))
  subst ex ey
  obtain rfl : u = Value.ref a := rx
  exact d_delItem I2 e ry l fun s3 I3 => wpAny_deleteEach_nil ⟨σ, _, I3, q2⟩
end


/-! ### displays -/
theorem dk_empty {P : Program} {w : World} {H : Hp} (h : Heap) (hb : sysModules < h.objs.size) : ObjOk P w H (h.push { cls := .type "dict", data := .dict #[] }) h.objs.size (.dK []) :=
  ⟨Nat.zero_le _, beq_eq_false_iff_ne.mpr (Ne.symm (Nat.ne_of_lt hb)), [], .nil, Heap.DictOf.new h⟩
theorem dt_empty {P : Program} {w : World} {H : Hp} (h : Heap) (hb : sysModules < h.objs.size) : ObjOk P w H (h.push { cls := .type "dict", data := .dict #[] }) h.objs.size (.dT []) :=
  ⟨Nat.zero_le _, beq_eq_false_iff_ne.mpr (Ne.symm (Nat.ne_of_lt hb)), [], .nil, _, #[], 0, Heap.get?_push_size _ rfl, ⟨rfl, rfl, rfl⟩, rfl, rfl, List.nodup_nil⟩
/-- {}, to be a dict of the kind that is wanted -/
def tDNewK : TE := fun _ H Q => ∀ p, H p = none → Q (.ref p) (upd H p (.dK []))
def tDNewT : TE := fun _ H Q => ∀ p, H p = none → Q (.ref p) (upd H p (.dT []))
section
variable {X : Cx} {pos : Pos}
theorem pe_dnewK : PE X (.Dict [] [] pos) tDNewK := fun pins s σ H Q I h =>
  wpAny_Dict_empty ⟨.ref s.heap.objs.size, _, I.laid (a := s.heap.objs.size) (o := .dK []) (t' := s.toks) (fun _ _ q => Heap.get?_push_of_some _ q) (Nat.le_refl _) (dk_empty s.heap I.big), rfl, h _ (I.hok.fresh (Nat.le_refl _))⟩
theorem pe_dnewT : PE X (.Dict [] [] pos) tDNewT := fun pins s σ H Q I h =>
  wpAny_Dict_empty ⟨.ref s.heap.objs.size, _, I.laid (a := s.heap.objs.size) (o := .dT []) (t' := s.toks) (fun _ _ q => Heap.get?_push_of_some _ q) (Nat.le_refl _) (dt_empty s.heap I.big), rfl, h _ (I.hok.fresh (Nat.le_refl _))⟩
end

/-- the pairs of a display, from the left -/
def tPairs : List (TE × TE) → St → Hp → (List (V × V) → Hp → Prop) → Prop
  | [], _, H, Q => Q [] H
  | (tk, tv) :: r, σ, H, Q => tk σ H fun x H1 => tv σ H1 fun y H2 => tPairs r σ H2 fun ps H3 => Q ((x, y) :: ps) H3
abbrev VV : List (V × V) → List (Value × Value) → Prop := Paired fun p q => RelV p.1 q.1 ∧ RelV p.2 q.2
def PPs (X : Cx) (pos : Pos) (keys : List (Option Expr)) (values : List Expr) (trs : List (TE × TE)) : Prop :=
  ∀ (pins : List (Addr × Obj)) (s : Shared) (σ : St) (H : Hp) (Q : List (V × V) → Hp → Prop), Inv X pins σ H s → tPairs trs σ H Q →
    wpAny (model X.prog X.w) X.A (evalPairs (pairTrees keys values X.env pos)) (fun vs s' => ∃ ps H', Inv X pins σ H' s' ∧ VV ps vs ∧ Q ps H') X.xe s
theorem pps_nil {X : Cx} {pos : Pos} : PPs X pos [] [] [] := fun pins s σ H Q I h => pairTrees_nil_walk ⟨[], H, I, .nil, h⟩
theorem pps_cons {X : Cx} {pos : Pos} {k v : Expr} {ks : List (Option Expr)} {vs : List Expr} {tk tv : TE} {trs : List (TE × TE)} (hk : PE X k tk) (hv : PE X v tv) (hr : PPs X pos ks vs trs) :
    PPs X pos (some k :: ks) (v :: vs) ((tk, tv) :: trs) := fun pins s σ H Q I h =>
  pairTrees_cons_walk (thn (hk pins s σ H _ I h) fun u s1 ⟨x, H1, I1, rx, q1⟩ => thn (hv pins s1 σ H1 _ I1 q1) fun w2 s2 ⟨y, H2, I2, ry, q2⟩ =>
    thn (hr pins s2 σ H2 _ I2 q2) fun ws s3 ⟨ps, H3, I3, rel, q3⟩ => ⟨(x, y) :: ps, H3, I3, .cons ⟨rx, ry⟩ rel, q3⟩)

def mergeK (kvs more : List (Key × V)) : List (Key × V) := more.foldl (fun acc kv => putK acc kv.1 kv.2) kvs
theorem KV.merge : ∀ {more : List (Key × V)} {rs : List (Key × Value)} {kvs : List (Key × V)} {vs : List (Key × Value)}, KV more rs → KV kvs vs → KV (mergeK kvs more) (merged vs rs) := by
  intro more rs kvs vs r
  unfold KV at r
  induction r generalizing kvs vs with
  | nil => intro q; exact q
  | @cons p q ps qs h t ih =>
    intro r0
    have e : KV (putK kvs p.1 p.2) (stored vs q.1 q.2) := by
      have := r0.put p.1 h.2
      rw [← h.1]; exact this
    exact ih e
theorem length_mergeK : ∀ (more kvs : List (Key × V)), (mergeK kvs more).length ≤ kvs.length + more.length
  | [], kvs => by show kvs.length ≤ kvs.length + 0; omega
  | p :: r, kvs => by
    have h1 := length_mergeK r (putK kvs p.1 p.2)
    have h2 := length_putK kvs p.1 p.2
    show (mergeK (putK kvs p.1 p.2) r).length ≤ _
    rw [List.length_cons]; omega
theorem carries_of {P : Program} {w : World} : ∀ {kvs : List (Key × V)} {ws : List (Value × Value)}, VV (kvs.map fun kv => (kV kv.1, kv.2)) ws → ∃ rs, Carries (mixKind P w) ws rs ∧ KV kvs rs
  | [], _, r => by rw [List.map_nil] at r; cases r; exact ⟨[], True.intro, .nil⟩
  | p :: kvs, _, r => by
    rw [List.map_cons] at r
    cases r with
    | @cons a b as bs h t =>
      obtain ⟨rs, c, q⟩ := carries_of (P := P) (w := w) t
      obtain ⟨b1, b2⟩ := b
      exact ⟨(p.1, b2) :: rs, ⟨kV_is h.1, rfl, c⟩, .cons ⟨rfl, h.2⟩ q⟩
/-- {k: v, ..} with keys ints and texts; the new dict stands empty while the pairs are made -/
def tDisp (trs : List (TE × TE)) : TE := fun σ H Q => ∀ p, H p = none → tPairs trs σ (upd H p (.dK [])) fun ps H2 => H2 p = some (.dK []) ∧ ∃ kvs : List (Key × V), ps = kvs.map (fun kv => (kV kv.1, kv.2)) ∧ kvs.length ≤ 15 ∧ Q (.ref p) (upd H2 p (.dK (mergeK [] kvs)))
theorem pe_disp {X : Cx} {pos : Pos} {keys : List (Option Expr)} {values : List Expr} {trs : List (TE × TE)} (h : PPs X pos keys values trs) (hall : keys.all (·.isSome) = true) (hl : keys.length = values.length) (h0 : keys ≠ [])
    (h15 : keys.length ≤ 15) : PE X (.Dict keys values pos) (tDisp trs) := by
  intro pins s σ H Q I q
  have hn := I.hok.fresh (Nat.le_refl s.heap.objs.size)
  have I1 := I.laid (a := s.heap.objs.size) (o := .dK []) (h' := s.heap.push { cls := .type "dict", data := .dict #[] }) (t' := s.toks) (fun _ _ q => Heap.get?_push_of_some _ q) (Nat.le_refl _) (dk_empty s.heap I.big)
  refine wpAny_Dict_walk (knd := mixKind X.prog X.w) hall hl h0 h15 (thn (h pins _ σ _ _ I1 (q _ hn)) fun ws s2 ⟨ps, H2, I2, rel, e, kvs, ep, lk, q2⟩ => ?_)
  subst ep
  obtain ⟨rs, c, rk⟩ := carries_of (P := X.prog) (w := X.w) rel
  obtain ⟨z, hd, vs0, r0, dd⟩ := dk_of I2.hok e
  cases r0
  refine ⟨rs, c, dd, fun h' dd' hs => ⟨.ref s.heap.objs.size, _, ?_, rfl, q2⟩⟩
  have hz : (mergeK [] kvs).length ≤ sizeLine := by
    have h1 := length_mergeK kvs []
    rw [List.length_nil] at h1
    rw [sizeLine_eq]; omega
  have he : ∃ q, h'.get? s.heap.objs.size = some q := let ⟨q, _, _, hq, _⟩ := dd'; ⟨q, hq⟩
  exact d_write I2 (by rw [e]; exact True.intro) hs he (dk_new hz hd (rk.merge .nil) dd')


/-! ### methods -/
/-- a method call o.m(e) of a built-in, with one argument: what must be seen of the text -/
structure M1 (X : Cx) (o : Expr) (m : Str) (apos : Pos) (e : Expr) (cpos : Pos) : Prop where
  base : attributeBase o m X.env (eval o X.env) = eval o X.env
  few : ((backTo cpos (starEach [e] X.env)).all (fun x => !x.1) && (backToKw cpos (keywordEach [] X.env)).all (fun x => x.1.isSome)
    && decide (([e] : List Expr).length + ([] : List Keyword).length + (if ([] : List Keyword).isEmpty then 0 else 1) < 30)) = true
  line : (apos.endLine == cpos.line) = true
  trees : backTo cpos (starEach [e] X.env) = [(false, eval e X.env)]
structure M2 (X : Cx) (o : Expr) (m : Str) (apos : Pos) (e f : Expr) (cpos : Pos) : Prop where
  base : attributeBase o m X.env (eval o X.env) = eval o X.env
  few : ((backTo cpos (starEach [e, f] X.env)).all (fun x => !x.1) && (backToKw cpos (keywordEach [] X.env)).all (fun x => x.1.isSome)
    && decide (([e, f] : List Expr).length + ([] : List Keyword).length + (if ([] : List Keyword).isEmpty then 0 else 1) < 30)) = true
  line : (apos.endLine == cpos.line) = true
  trees : backTo cpos (starEach [e, f] X.env) = [(false, eval e X.env), (false, eval f X.env)]

/-- a is a dict, whatever its keys -/
def IsD (H : Hp) (a : Addr) : Prop := (∃ kvs, Rd H a (.dK kvs)) ∨ ∃ kvs, Rd H a (.dT kvs)
theorem isD_at {X : Cx} {pins : List (Addr × Obj)} {σ : St} {H : Hp} {s : Shared} {a : Addr} (I : Inv X pins σ H s) (d : IsD H a) :
    s.TypeIs (.ref a) "dict" ∧ (∀ b, Value.ref a = .ref b → ∃ ob, s.heap.get? b = some ob ∧ ob.dict = none) ∧ (a == sysModules) = false := by
  rcases d with ⟨kvs, e⟩ | ⟨kvs, e⟩
  · obtain ⟨_, hd, vs, _, dd⟩ := dk_rd I.hok e
    refine ⟨dd.typeIs, fun b q => ?_, hd⟩
    cases q
    obtain ⟨ob, _, _, h1, h2, _⟩ := dd
    exact ⟨ob, h1, h2.2.1⟩
  · obtain ⟨_, hd, xs, _, dd⟩ := dt_rd I.hok e
    refine ⟨dd.typeIs, fun b q => ?_, hd⟩
    cases q
    obtain ⟨ob, _, _, h1, h2, _⟩ := dd
    exact ⟨ob, h1, h2.2.1⟩

section
variable {X : Cx} {pins : List (Addr × Obj)} {σ : St} {H : Hp} {s : Shared} {a : Addr} {y d : V} {u r : Value} {o : Option V} {A : Around} {E : Value → Shared → Prop}
/-- d.get(y) -/
theorem d_get1 {Q : Value → Shared → Prop} (hu : A.units + 1 < cLine) (I : Inv X pins σ H s) (g : DGet H a y o) (ry : RelV y u) (h : ∀ w' s', Inv X pins σ H s' → RelV (o.getD .non) w' → Q w' s') :
    wpAny (model X.prog X.w) A (call (.builtin "dict.get") [.ref a, u]) Q E s := by
  rcases g with ⟨kvs, k, e, ey, l⟩ | ⟨kvs, k, b, e, ey, eb, l⟩
  · subst ey
    obtain ⟨z, hd, vs, rel, dd⟩ := dk_rd I.hok e
    refine call_meetsIn PySem.F.slot_dict_get dd.typeIs PySem.F.entry_dict_get (PySem.F.args_dict_get_2 _ _) (meets_dict_get (mixKind X.prog X.w) a (kV_is ry) hd) ⟨_, dd.mapOf, h _ _ (I.tok _) ?_⟩
    rw [l]
    exact (rel.val k).getD rfl
  · subst ey
    cases (show u = Value.ref b from ry)
    obtain ⟨z, hd, xs, rel, dd⟩ := dt_rd I.hok e
    refine call_meetsIn PySem.F.slot_dict_get dd.typeIs PySem.F.entry_dict_get (PySem.F.args_dict_get_2 _ _) (meetsH_dict_get (tupleKind (mixKind X.prog X.w)) a b hd) ⟨tupleKind_room_in1 hu, k, xs, key_of I.hok eb, dd, h _ _ (I.tok _) ?_⟩
    rw [l]
    exact (rel.val k).getD rfl
/-- d.get(y, x) -/
theorem d_get2 {Q : Value → Shared → Prop} (hu : A.units + 1 < cLine) (I : Inv X pins σ H s) (g : DGet H a y o) (ry : RelV y u) (rd : RelV d r) (h : ∀ w' s', Inv X pins σ H s' → RelV (o.getD d) w' → Q w' s') :
    wpAny (model X.prog X.w) A (call (.builtin "dict.get") [.ref a, u, r]) Q E s := by
  rcases g with ⟨kvs, k, e, ey, l⟩ | ⟨kvs, k, b, e, ey, eb, l⟩
  · subst ey
    obtain ⟨z, hd, vs, rel, dd⟩ := dk_rd I.hok e
    refine call_meetsIn PySem.F.slot_dict_get dd.typeIs PySem.F.entry_dict_get (PySem.F.args_dict_get_3 _ _ _) (meets_dict_get_default (mixKind X.prog X.w) a (kV_is ry) hd r) ⟨_, dd.mapOf, h _ _ (I.tok _) ?_⟩
    rw [l]
    exact (rel.val k).getD rd
  · subst ey
    cases (show u = Value.ref b from ry)
    obtain ⟨z, hd, xs, rel, dd⟩ := dt_rd I.hok e
    refine call_meetsIn PySem.F.slot_dict_get dd.typeIs PySem.F.entry_dict_get (PySem.F.args_dict_get_3 _ _ _) (meetsH_dict_get_default (tupleKind (mixKind X.prog X.w)) a b hd r) ⟨tupleKind_room_in1 hu, k, xs, key_of I.hok eb, dd, h _ _ (I.tok _) ?_⟩
    rw [l]
    exact (rel.val k).getD rd
end

def tDGet1 (td ty : TE) : TE := fun σ H Q => td σ H fun x H1 => ∃ a, x = .ref a ∧ IsD H1 a ∧ ty σ H1 fun y H2 => ∃ o, DGet H2 a y o ∧ Q (o.getD .non) H2
def tDGet2 (td ty tx : TE) : TE := fun σ H Q => td σ H fun x H1 => ∃ a, x = .ref a ∧ IsD H1 a ∧ ty σ H1 fun y H2 => tx σ H2 fun z H3 => ∃ o, DGet H3 a y o ∧ Q (o.getD z) H3
/-- d.pop(k): there; d.pop(k, x): there or not -/
def tDPop1 (td ty : TE) : TE := fun σ H Q => td σ H fun x H1 => ∃ a, x = .ref a ∧ IsD H1 a ∧ ty σ H1 fun y H2 => ∃ kvs k v, H2 a = some (.dK kvs) ∧ y = kV k ∧ valV kvs k = some v ∧ Q v (upd H2 a (.dK (dropK kvs k)))
def tDPop2 (td ty tx : TE) : TE := fun σ H Q => td σ H fun x H1 => ∃ a, x = .ref a ∧ IsD H1 a ∧ ty σ H1 fun y H2 => tx σ H2 fun z H3 => ∃ kvs k, H3 a = some (.dK kvs) ∧ y = kV k ∧
  (∀ v, valV kvs k = some v → Q v (upd H3 a (.dK (dropK kvs k)))) ∧ (valV kvs k = none → Q z H3)
section
variable {X : Cx} {o e f : Expr} {apos cpos : Pos} {td ty tx : TE}
theorem pe_dget1 (hu : X.A.units + 1 < cLine) (ho : PE X o td) (he : PE X e ty) (m : M1 X o "get" apos e cpos) : PE X (.Call (.Attribute o "get" apos) [e] [] cpos) (tDGet1 td ty) := by
  intro pins s σ H Q I h
  refine wpAny_Call_method m.base m.few m.line PySem.F.plainAttrs_dict PySem.F.slot_dict_get PySem.F.type_dict_get (thn (ho pins s σ H _ I h) fun u s1 ⟨x, H1, I1, rx, a, ex, d, q1⟩ => ?_)
  subst ex
  obtain rfl : u = Value.ref a := rx
  obtain ⟨t1, t2, _⟩ := isD_at I1 d
  refine ⟨t1, t2, ?_⟩
  rw [m.trees]
  refine Calls.callWith_builtin rfl (Calls.evalArgs_plain (Calls.spliced_cons (thn (he pins s1 σ H1 _ I1 q1) fun iv s2 ⟨y, H2, I2, ry, ov, g, q2⟩ => Calls.spliced_nil ?_)))
  exact d_get1 hu I2 g ry fun w' s3 I3 rw' => ⟨_, H2, I3, rw', q2⟩
theorem pe_dget2 (hu : X.A.units + 1 < cLine) (ho : PE X o td) (he : PE X e ty) (hf : PE X f tx) (m : M2 X o "get" apos e f cpos) : PE X (.Call (.Attribute o "get" apos) [e, f] [] cpos) (tDGet2 td ty tx) := by
  intro pins s σ H Q I h
  refine wpAny_Call_method m.base m.few m.line PySem.F.plainAttrs_dict PySem.F.slot_dict_get PySem.F.type_dict_get (thn (ho pins s σ H _ I h) fun u s1 ⟨x, H1, I1, rx, a, ex, d, q1⟩ => ?_)
  subst ex
  obtain rfl : u = Value.ref a := rx
  obtain ⟨t1, t2, _⟩ := isD_at I1 d
  refine ⟨t1, t2, ?_⟩
  rw [m.trees]
  refine Calls.callWith_builtin rfl (Calls.evalArgs_plain (Calls.spliced_cons (thn (he pins s1 σ H1 _ I1 q1) fun iv s2 ⟨y, H2, I2, ry, q2⟩ =>
    Calls.spliced_cons (thn (hf pins s2 σ H2 _ I2 q2) fun fv s3 ⟨z, H3, I3, rz, ov, g, q3⟩ => Calls.spliced_nil ?_))))
  exact d_get2 hu I3 g ry rz fun w' s4 I4 rw' => ⟨_, H3, I4, rw', q3⟩
theorem pe_dpop1 (ho : PE X o td) (he : PE X e ty) (m : M1 X o "pop" apos e cpos) : PE X (.Call (.Attribute o "pop" apos) [e] [] cpos) (tDPop1 td ty) := by
  intro pins s σ H Q I h
  refine wpAny_Call_method m.base m.few m.line PySem.F.plainAttrs_dict PySem.F.slot_dict_pop PySem.F.type_dict_pop (thn (ho pins s σ H _ I h) fun u s1 ⟨x, H1, I1, rx, a, ex, d, q1⟩ => ?_)
  subst ex
  obtain rfl : u = Value.ref a := rx
  obtain ⟨t1, t2, _⟩ := isD_at I1 d
  refine ⟨t1, t2, ?_⟩
  rw [m.trees]
  refine Calls.callWith_builtin rfl (Calls.evalArgs_plain (Calls.spliced_cons (thn (he pins s1 σ H1 _ I1 q1) fun iv s2 ⟨y, H2, I2, ry, kvs, k, v, ea, ey, l, q2⟩ => Calls.spliced_nil ?_)))
  subst ey
  exact d_pop I2 ea ry l (.inl rfl) fun w' s3 I3 rw' => ⟨v, _, I3, rw', q2⟩
theorem pe_dpop2 (ho : PE X o td) (he : PE X e ty) (hf : PE X f tx) (m : M2 X o "pop" apos e f cpos) : PE X (.Call (.Attribute o "pop" apos) [e, f] [] cpos) (tDPop2 td ty tx) := by
  intro pins s σ H Q I h
  refine wpAny_Call_method m.base m.few m.line PySem.F.plainAttrs_dict PySem.F.slot_dict_pop PySem.F.type_dict_pop (thn (ho pins s σ H _ I h) fun u s1 ⟨x, H1, I1, rx, a, ex, d, q1⟩ => ?_)
  subst ex
  obtain rfl : u = Value.ref a := rx
  obtain ⟨t1, t2, _⟩ := isD_at I1 d
  refine ⟨t1, t2, ?_⟩
  rw [m.trees]
  refine Calls.callWith_builtin rfl (Calls.evalArgs_plain (Calls.spliced_cons (thn (he pins s1 σ H1 _ I1 q1) fun iv s2 ⟨y, H2, I2, ry, q2⟩ =>
    Calls.spliced_cons (thn (hf pins s2 σ H2 _ I2 q2) fun fv s3 ⟨z, H3, I3, rz, kvs, k, ea, ey, q3, q4⟩ => Calls.spliced_nil ?_))))
  subst ey
  cases l : valV kvs k with
  | some v => exact d_pop I3 ea ry l (.inr ⟨fv, rfl⟩) fun w' s4 I4 rw' => ⟨v, _, I4, rw', q3 v l⟩
  | none => exact d_popD I3 ea ry l fun s4 I4 => ⟨z, H3, I4, rz, q4 l⟩
end

/-! ### dict(d): a copy -/
section
variable {X : Cx} {pins : List (Addr × Obj)} {σ : St} {H : Hp} {s : Shared} {a : Addr} {kvs : List (Key × V)} {A : Around} {E : Value → Shared → Prop}
theorem d_copyOf {Q : Value → Shared → Prop} (I : Inv X pins σ H s) (e : Rd H a (.dK kvs)) (h : ∀ p s', H p = none → Inv X pins σ (upd H p (.dK kvs)) s' → Q (.ref p) s') : wpAny (model X.prog X.w) A (call (.type "dict") [.ref a]) Q E s := by
  obtain ⟨z, hd, vs, rel, dd⟩ := dk_rd I.hok e
  refine kt_call_dict hd dd (by rw [← rel.length]; exact z) fun h' dd' hs => ?_
  refine h _ _ (I.hok.fresh (Nat.le_refl _)) (I.laid (a := s.heap.objs.size) (o := .dK kvs) (t' := s.toks) (fun b q hq => ?_) (Nat.le_refl _) (dk_new z (beq_eq_false_iff_ne.mpr (Ne.symm (Nat.ne_of_lt I.big))) rel dd'))
  exact (hs.2 b (Nat.ne_of_lt (Heap.lt_size hq))).trans (Heap.get?_push_of_some _ hq)
end


section
variable {X : Cx} {pins : List (Addr × Obj)} {σ : St} {H : Hp} {s : Shared} {a : Addr} {y : V} {u : Value} {A : Around} {E : Value → Shared → Prop}
/-- d[y], not there: a KeyError -/
theorem d_missing {Q : Value → Shared → Prop} (hu : A.units + 1 < cLine) (hh : A.handled = none) (I : Inv X pins σ H s) (g : DGet H a y none) (ry : RelV y u)
    (h : ∀ h' e t', Heap.NewExc s.heap h' e "KeyError" → E (.ref e) { s with heap := h', toks := t' }) : wpAny (model X.prog X.w) A (getItem (.ref a) u) Q E s := by
  rcases g with ⟨kvs, k, e, ey, l⟩ | ⟨kvs, k, b, e, ey, eb, l⟩
  · subst ey
    obtain ⟨z, hd, vs, rel, dd⟩ := dk_rd I.hok e
    have hn : valueAt vs k = none := RelO.none_of (by rw [l]; exact rel.val k)
    exact wpAny_getItem_missing_of (kV_is ry) hd hh dd.mapOf hn fun h' ex ne => h h' ex _ ne
  · subst ey
    cases (show u = Value.ref b from ry)
    obtain ⟨z, hd, xs, rel, dd⟩ := dt_rd I.hok e
    have hn : (atKey xs k).map (·.2) = none := RelO.none_of (by rw [l]; exact rel.val k)
    exact wpAny_getItem_missing_heap (tupleKind_room_in1 hu) (key_of I.hok eb) hd hh dd (Option.map_eq_none_iff.mp hn) fun h' ex ne => h h' ex _ ne
end
end L2

namespace L2
open PySem PySem.Spec PyProof.Rows
section
variable {X : Cx}
/-- len of a dict -/
theorem call_lenD : CallR X (.builtin "len") (fun xs H Q => ∃ a kvs, xs = [V.ref a] ∧ H a = some (.dK kvs) ∧ Q (.int kvs.length) H) := by
  intro pins s σ H xs us Q I r h
  obtain ⟨a, kvs, rfl, ha, q⟩ := h
  obtain ⟨u, rfl, ru⟩ := vals1 r
  cases ru
  exact d_len I (.inl ha) fun t s' I' => ⟨.int kvs.length, H, I', ⟨t, rfl⟩, q⟩
end
/-! ### a dict's pairs: keys that differ -/
section
variable {κ : Type} [DecidableEq κ]
theorem valV_not {kvs : List (κ × V)} {k : κ} (h : valV kvs k = none) : ¬ k ∈ kvs.map (·.1) := by
  intro m
  obtain ⟨p, hp, e⟩ := List.mem_map.mp m
  have q : (kvs.any fun kv => decide (kv.1 = k)) = true := List.any_eq_true.mpr ⟨p, hp, decide_eq_true e⟩
  rw [valV_any, h] at q
  exact absurd q (by simp)
theorem valV_in {kvs : List (κ × V)} {k : κ} {v : V} (h : valV kvs k = some v) : k ∈ kvs.map (·.1) := by
  have q : (kvs.any fun kv => decide (kv.1 = k)) = true := by
    rw [valV_any, h]
    all_goals rfl
  obtain ⟨p, hp, e⟩ := List.any_eq_true.mp q
  exact List.mem_map.mpr ⟨p, hp, of_decide_eq_true e⟩
theorem nd_snoc : ∀ {l : List κ} {k : κ}, l.Nodup → ¬ k ∈ l → (l ++ [k]).Nodup
  | [], k, _, _ => by simp
  | a :: r, k, h, hk => by
    obtain ⟨h1, h2⟩ := List.nodup_cons.mp h
    show (a :: (r ++ [k])).Nodup
    refine List.nodup_cons.mpr ⟨fun m => ?_, nd_snoc h2 fun m => hk (List.mem_cons.mpr (Or.inr m))⟩
    rcases List.mem_append.mp m with q | q
    · exact h1 q
    · exact hk (List.mem_cons.mpr (Or.inl (List.mem_singleton.mp q).symm))
theorem nd_putK {kvs : List (κ × V)} {k : κ} (v : V) (hn : (kvs.map (·.1)).Nodup) (h : valV kvs k = none) : ((putK kvs k v).map (·.1)).Nodup := by
  rw [putK_new v h, List.map_append]
  exact nd_snoc hn (valV_not h)
theorem dropK_pos {p : κ × V} {r : List (κ × V)} {k : κ} (e : p.1 = k) : dropK (p :: r) k = dropK r k := by
  unfold dropK
  rw [List.filter_cons, if_neg (by simp [e])]
theorem dropK_neg {p : κ × V} {r : List (κ × V)} {k : κ} (e : ¬ p.1 = k) : dropK (p :: r) k = p :: dropK r k := by
  unfold dropK
  rw [List.filter_cons, if_pos (by simp [e])]
theorem dropK_no : ∀ {kvs : List (κ × V)} {k : κ}, ¬ k ∈ kvs.map (·.1) → dropK kvs k = kvs
  | [], _, _ => rfl
  | p :: r, k, h => by
    have h' : ¬ k ∈ r.map (·.1) := fun m => by
      obtain ⟨q, hq, e⟩ := List.mem_map.mp m
      exact h (List.mem_map.mpr ⟨q, List.mem_cons.mpr (Or.inr hq), e⟩)
    rw [dropK_neg fun e => h (List.mem_map.mpr ⟨p, List.mem_cons.mpr (Or.inl rfl), e⟩), dropK_no h']
theorem dropK_mem {kvs : List (κ × V)} {k : κ} {p : κ × V} (h : p ∈ dropK kvs k) : p ∈ kvs := (List.mem_filter.mp h).1
theorem nd_dropK : ∀ {kvs : List (κ × V)} {k : κ}, (kvs.map (·.1)).Nodup → ((dropK kvs k).map (·.1)).Nodup
  | [], _, _ => List.nodup_nil
  | p :: r, k, h => by
    have h : (p.1 :: r.map (·.1)).Nodup := h
    obtain ⟨h1, h2⟩ := List.nodup_cons.mp h
    by_cases e : p.1 = k
    · rw [dropK_pos e]
      exact nd_dropK h2
    · rw [dropK_neg e]
      show (p.1 :: (dropK r k).map (·.1)).Nodup
      refine List.nodup_cons.mpr ⟨fun m => h1 ?_, nd_dropK h2⟩
      obtain ⟨q, hq, eq⟩ := List.mem_map.mp m
      exact List.mem_map.mpr ⟨q, dropK_mem hq, eq⟩
theorem dropK_len : ∀ {kvs : List (κ × V)} {k : κ}, (kvs.map (·.1)).Nodup → k ∈ kvs.map (·.1) → (dropK kvs k).length + 1 = kvs.length
  | [], _, _, m => by simp at m
  | p :: r, k, h, m => by
    have h : (p.1 :: r.map (·.1)).Nodup := h
    have m : k = p.1 ∨ k ∈ r.map (·.1) := List.mem_cons.mp m
    obtain ⟨h1, h2⟩ := List.nodup_cons.mp h
    by_cases e : p.1 = k
    · subst e
      rw [dropK_pos rfl, dropK_no h1]
      all_goals rfl
    · have m' : k ∈ r.map (·.1) := m.resolve_left fun z => e z.symm
      have q := dropK_len h2 m'
      rw [dropK_neg e, List.length_cons, List.length_cons]
      omega
end
end L2


set_option maxHeartbeats 4000000
namespace L2
open PySem PySem.Spec PyProof.Rows

instance : Inhabited V := ⟨.non⟩
/-! ### isinstance(x, T), T a type of Python's own -/
section
variable {X : Cx}
theorem call_isinst : CallR X (.builtin "isinstance") (fun xs H Q => ∃ x n t b, xs = [x, .ty n] ∧ TyOf X.K H x t ∧ PySem.W.kitOne X.K t (.type n) = some b ∧ Q (.bl b) H) := by
  intro pins s σ H xs us Q I r h
  obtain ⟨x, n, t, b, rfl, ty, e, q⟩ := h
  obtain ⟨u, u', rfl, rx, ru⟩ := vals2 r
  cases (show u' = Value.type n from ru)
  exact isinst_ok I rx ty e fun tk => ⟨.bl b, H, I.tok tk, rfl, q⟩
end
section
variable {K : PySem.W.Frag}
theorem kit_int_int : PySem.W.kitOne K (.type "int") (.type "int") = some true := by first | rfl | (unfold PySem.W.kitOne; simp)
theorem kit_int_bool : PySem.W.kitOne K (.type "int") (.type "bool") = some false := by first | rfl | decide +kernel
theorem kit_bool_bool : PySem.W.kitOne K (.type "bool") (.type "bool") = some true := by first | rfl | (unfold PySem.W.kitOne; simp)
theorem kit_list_list : PySem.W.kitOne K (.type "list") (.type "list") = some true := by first | rfl | (unfold PySem.W.kitOne; simp)
theorem kit_tuple_tuple : PySem.W.kitOne K (.type "tuple") (.type "tuple") = some true := by first | rfl | (unfold PySem.W.kitOne; simp)
theorem kit_str_str : PySem.W.kitOne K (.type "str") (.type "str") = some true := by first | rfl | (unfold PySem.W.kitOne; simp)
end

/-! ### == and != of lists and tuples -/
/-- == of two values, as the heap has them: flat ones, one object, or two tuples of flat ones -/
inductive EqH (K : PySem.W.Frag) (H : Hp) : V → V → Bool → Prop where
  | flat {x y : V} (hx : flatV x = true) (hy : flatV y = true) : EqH K H x y (eqV x y)
  | same (p : Addr) : EqH K H (.ref p) (.ref p) true
  | tup {p q : Addr} {xs ys : List V} (hn : p ≠ q) (hp : SqT K H p xs) (hq : SqT K H q ys) (fx : xs.all flatV = true) (fy : ys.all flatV = true) :
      EqH K H (.ref p) (.ref q) ((List.range (min xs.length ys.length)).all (fun j => eqV (xs.getD j .non) (ys.getD j .non)) && xs.length == ys.length)
theorem all_flat_get {xs : List V} (f : xs.all flatV = true) {j : Nat} {x : V} (h : xs[j]? = some x) : flatV x = true :=
  List.all_eq_true.mp f x (List.mem_of_getElem? h)
theorem eqAt_items {A : Around} {s : Shared} {xs ys : List V} {its its2 : List Value} (r : Vals xs its) (r2 : Vals ys its2) (fx : xs.all flatV = true) (fy : ys.all flatV = true) :
    ∀ j (h1 : j < its.toArray.size) (h2 : j < its2.toArray.size), SeqAt.EqAt A s its.toArray[j] its2.toArray[j] (eqV (xs.getD j .non) (ys.getD j .non)) := by
  intro j h1 h2
  rw [List.size_toArray] at h1 h2
  have hx : xs[j]? = some xs[j]! := by
    have : j < xs.length := by rw [r.length]; exact h1
    simp [this]
  have hy : ys[j]? = some ys[j]! := by
    have : j < ys.length := by rw [r2.length]; exact h2
    simp [this]
  obtain ⟨u, hu, ru⟩ := r.get hx
  obtain ⟨v, hv, rv⟩ := r2.get hy
  have e1 : its.toArray[j] = u := by
    have := List.getElem?_eq_some_iff.mp hu
    obtain ⟨_, e⟩ := this
    simpa using e
  have e2 : its2.toArray[j] = v := by
    have := List.getElem?_eq_some_iff.mp hv
    obtain ⟨_, e⟩ := this
    simpa using e
  rw [e1, e2]
  have g1 : xs.getD j .non = xs[j]! := by rw [List.getD_eq_getElem?_getD, hx]; rfl
  have g2 : ys.getD j .non = ys[j]! := by rw [List.getD_eq_getElem?_getD, hy]; rfl
  rw [g1, g2]
  exact eqAt_V ru rv (all_flat_get fx hx) (all_flat_get fy hy)
theorem EqH.at {X : Cx} {pins : List (Addr × Obj)} {σ : St} {H : Hp} {s : Shared} {A : Around} {x y : V} {u v : Value} {b : Bool} (h : EqH X.K H x y b) (I : Inv X pins σ H s) (rx : RelV x u) (ry : RelV y v) (hu : A.units < cLine) : SeqAt.EqAt A s u v b := by
  cases h with
  | flat hx hy => exact eqAt_V rx ry hx hy
  | same p =>
    cases (show u = Value.ref p from rx)
    cases (show v = Value.ref p from ry)
    exact SeqAt.EqAt.same _
  | @tup p q xs ys hn hp hq fx fy =>
    cases (show u = Value.ref p from rx)
    cases (show v = Value.ref q from ry)
    obtain ⟨its, r, pl, _⟩ := I.tuple hp
    obtain ⟨its2, r2, pl2, _⟩ := I.tuple hq
    refine SeqAt.EqAt.of_refs hn ?_
    have e1 : its.toArray.size = xs.length := by rw [List.size_toArray]; exact r.length.symm
    have e2 : its2.toArray.size = ys.length := by rw [List.size_toArray]; exact r2.length.symm
    have z := SeqAt.RcAt.tuples (A := A) pl pl2 hu (eqAt_items r r2 fx fy)
    rw [e1, e2] at z
    exact z
/-- the lists at a and b compared -/
def EqLs (K : PySem.W.Frag) (H : Hp) (xs ys : List V) (b : Bool) : Prop :=
  (xs.length ≠ ys.length ∧ b = false) ∨ (xs.length = ys.length ∧ ∃ e : Nat → Bool, (∀ (j : Nat) x y, xs[j]? = some x → ys[j]? = some y → EqH K H x y (e j)) ∧ b = (List.range xs.length).all e)
theorem EqLs.refl {K : PySem.W.Frag} {H : Hp} {xs : List V} (h : ∀ x ∈ xs, EqH K H x x true) : EqLs K H xs xs true :=
  .inr ⟨rfl, fun _ => true, fun j x y hx hy => by rw [hx] at hy; cases hy; exact h x (List.mem_of_getElem? hx), by simp⟩
section
variable {X : Cx}
theorem eqLs_at {A : Around} {pins : List (Addr × Obj)} {σ : St} {H : Hp} {s : Shared} {xs ys : List V} {its its2 : List Value} {e : Nat → Bool} (I : Inv X pins σ H s) (hu : A.units < cLine) (r : Vals xs its) (r2 : Vals ys its2)
    (he : ∀ (j : Nat) x y, xs[j]? = some x → ys[j]? = some y → EqH X.K H x y (e j)) :
    ∀ j (h1 : j < its.toArray.size) (h2 : j < its2.toArray.size), SeqAt.EqAt A s its.toArray[j] its2.toArray[j] (e j) := by
  intro j h1 h2
  rw [List.size_toArray] at h1 h2
  have hx : xs[j]? = some xs[j]! := by
    have : j < xs.length := by rw [r.length]; exact h1
    simp [this]
  have hy : ys[j]? = some ys[j]! := by
    have : j < ys.length := by rw [r2.length]; exact h2
    simp [this]
  obtain ⟨u, hu', ru⟩ := r.get hx
  obtain ⟨v, hv, rv⟩ := r2.get hy
  have e1 : its.toArray[j] = u := by
    obtain ⟨_, e⟩ := List.getElem?_eq_some_iff.mp hu'
    simpa using e
  have e2 : its2.toArray[j] = v := by
    obtain ⟨_, e⟩ := List.getElem?_eq_some_iff.mp hv
    simpa using e
  rw [e1, e2]
  exact (he j _ _ hx hy).at I ru rv hu
def rEqL (K : PySem.W.Frag) (neg : Bool) : R2 := fun x y H Q => ∃ a b xs ys k, x = .ref a ∧ y = .ref b ∧ SqL K H a xs ∧ SqL K H b ys ∧ EqLs K H xs ys k ∧ Q (.bl (if neg then !k else k)) H
theorem op_eqL (hu : X.A.units + 1 < cLine) : OpR X (compareOp .Eq) (rEqL X.K false) := by
  intro pins s σ H x y v u Q I rx ry h
  obtain ⟨a, b, xs, ys, k, rfl, rfl, ha, hb, he, q⟩ := h
  cases (show v = Value.ref a from rx)
  cases (show u = Value.ref b from ry)
  obtain ⟨its, r, pl, _⟩ := I.list ha
  obtain ⟨its2, r2, pl2, _⟩ := I.list hb
  have l1 := r.length
  have l2 := r2.length
  rcases he with ⟨hn, rfl⟩ | ⟨hn, e, he, rfl⟩
  · exact SeqAt.eq_list_lengthsAt pl.isList pl2.isList (by simp only [List.size_toArray, bne_iff_ne]; omega) (by omega) ⟨.bl false, H, I, rfl, q⟩
  · refine SeqAt.eq_listAt pl.isList pl2.isList (by simp only [List.size_toArray]; omega) (by omega) (eqLs_at (A := X.A.in1) I (by show X.A.units + 1 < cLine; omega) r r2 he) ⟨.bl _, H, I, rfl, ?_⟩
    rw [List.size_toArray, ← l1]
    exact q
theorem op_neL (hu : X.A.units + 1 < cLine) : OpR X (compareOp .NotEq) (rEqL X.K true) := by
  intro pins s σ H x y v u Q I rx ry h
  obtain ⟨a, b, xs, ys, k, rfl, rfl, ha, hb, he, q⟩ := h
  cases (show v = Value.ref a from rx)
  cases (show u = Value.ref b from ry)
  obtain ⟨its, r, pl, _⟩ := I.list ha
  obtain ⟨its2, r2, pl2, _⟩ := I.list hb
  have l1 := r.length
  have l2 := r2.length
  rcases he with ⟨hn, rfl⟩ | ⟨hn, e, he, rfl⟩
  · exact SeqAt.RcNeAt.lists_lengths (A := X.A) (s := s) pl.isList pl2.isList (by simp only [List.size_toArray, bne_iff_ne]; omega) (by omega) _ _ _ _ ⟨.bl true, H, I, rfl, q⟩
  · refine SeqAt.RcNeAt.lists (A := X.A) (s := s) pl.isList pl2.isList (by simp only [List.size_toArray]; omega) (by omega) (eqLs_at (A := X.A.in1) I (by show X.A.units + 1 < cLine; omega) r r2 he) _ _ _ _ ⟨.bl _, H, I, rfl, ?_⟩
    rw [List.size_toArray, ← l1]
    exact q
theorem eqLs_nil {K : PySem.W.Frag} {H : Hp} {xs : List V} : EqLs K H xs [] (decide (xs = [])) := by
  cases xs with
  | nil => exact .inr ⟨rfl, fun _ => true, fun j x y hx hy => by simp at hx, by simp⟩
  | cons x r => exact .inl ⟨by simp, by simp⟩

/-! ### methods of texts -/
/-- x.index(y), where y is found -/
theorem mt_index : MtR X "str.index" (fun x vs H Q => ∃ i j k, x = .str i ∧ vs = [.str j] ∧ (∃ r, Builtin.Str.occurrences i j 0 i.length 1 = k :: r) ∧ Q (.int (k : Nat)) H) := by
  intro pins s σ H x xs v us Q I rx rs h
  obtain ⟨i, j, k, rfl, rfl, ⟨r, ho⟩, q⟩ := h
  obtain ⟨t, rfl⟩ := (show ∃ t, v = Value.str i t from rx)
  obtain ⟨u, rfl, ru⟩ := vals1 rs
  obtain ⟨t', rfl⟩ := (show ∃ t, u = Value.str j t from ru)
  exact SC.index ho ⟨.int (k : Nat), H, I.tok _, ⟨_, rfl⟩, q⟩
theorem strsAre_of : ∀ {ys : List Str} {us : List Value}, Vals (ys.map V.str) us → StrsAre us ys
  | [], _, r => by cases r; exact .nil
  | y :: ys, _, r => by
    cases r with
    | cons r1 r2 =>
      obtain ⟨t, rfl⟩ := r1
      exact .cons y t (strsAre_of r2)
/-- sep.join(xs), xs a list of texts -/
theorem mt_join : MtR X "str.join" (fun x vs H Q => ∃ sep a ys, x = .str sep ∧ vs = [.ref a] ∧ SqL X.K H a (ys.map V.str) ∧ (ys.map (·.length)).sum + ys.length * sep.length ≤ 16777216 ∧ Q (.str (Txt.join sep ys)) H) := by
  intro pins s σ H x xs v us Q I rx rs h
  obtain ⟨sep, a, ys, rfl, rfl, ha, hz, q⟩ := h
  obtain ⟨t, rfl⟩ := (show ∃ t, v = Value.str sep t from rx)
  obtain ⟨u, rfl, ru⟩ := vals1 rs
  cases (show u = Value.ref a from ru)
  obtain ⟨its, r, pl, _⟩ := I.list ha
  exact join_list pl.isList (strsAre_of (by simpa using r)) hz fun t' k => ⟨.str _, H, I.tok k, ⟨_, rfl⟩, q⟩
end
end L2

set_option maxHeartbeats 4000000
namespace L2
open PySem
open PySem.Sem (wp)
section
variable {prog : Program} {w : World} {A : Around} {E : Value → Shared → Prop} {s : Shared}
theorem nextOf_tuple_item {it t : Addr} {i : Nat} {items : Array Value} {x : Value} {Q : Value → Shared → Prop} (hit : s.heap.IsTupleIter it t i)
    (ht : s.heap.IsTuple t items) (hx : items[i]? = some x)
    (hQ : ∀ h', h'.IsTupleIter it t (i + 1) → Heap.SameBut it s.heap h' → Q x { s with heap := h' }) :
    wpAny (model prog w) A (Builtin.SmallTypes.nextOf (.ref it)) Q E s := by
  obtain ⟨o, ho, hc, hd⟩ := id hit
  obtain ⟨ol, hol, _, nl, hdl⟩ := ht
  unfold Builtin.SmallTypes.nextOf
  refine wpAny_bind (wpAny_callSpecial?_slot (name := Str.ofString "__next__") hit.typeIs F.slot_tuple_iterator_next
    (wpAny_call_entry F.slot_tuple_iterator_next hit.typeIs F.entry_tuple_iterator_next ?_ (F.args_tuple_iterator_next_1 _)))
  show wpAny _ _ (field (.ref it) 0 >>= _) _ _ s
  refine wpAny_bind (wpAny_field ho hd (x := .ref t) rfl ?_)
  show wpAny _ _ (if (Value.ref t == Value.none) = true then _ else _) _ _ s
  rw [if_neg (show ¬ ((Value.ref t == Value.none) = true) from Bool.false_ne_true)]
  show wpAny _ _ (field (.ref it) 1 >>= _) _ _ s
  refine wpAny_bind (wpAny_field ho hd (x := .int i 0) rfl ?_)
  show wpAny _ _ (seqItems? (.ref t) >>= _) _ _ s
  refine wpAny_bind (wpAny_seqItems hol hdl ?_)
  simp only [Int.toNat_natCast, hx]
  refine wpAny_bind (wpAny_setField ho hd (by simp) (wpAny_pure ⟨x, rfl, wpAny_pure (hQ _ ?_ (Heap.SameBut.update ..))⟩))
  exact ⟨_, Heap.get?_update_self _ ho (Obj.isFreed_of_fields (Obj.data_mapFields hd _)), (Obj.cls_mapFields ..).trans hc, by
    rw [Obj.data_mapFields hd]; simp [rawInt]⟩

abbrev Asc := "str_ascii_iterator"
/-- zip's next pair: a text's sign, a tuple's item -/
theorem zipST_item {z TI TO i1 i2 l2 : Addr} {k : Nat} {x : Str} {tx : Tok} {ys : Array Value} {c : Nat} {y a b : Value} {Q : Value → Shared → Prop} (D : ZipApart z TI TO i1 i2 TI l2)
    (hz : IsZip s.heap z TI TO .none) (hTI : IsPair s.heap TI (.ref i1) (.ref i2)) (hTO : IsPair s.heap TO a b)
    (h1 : s.heap.IsStrIter i1 "str_ascii_iterator" x tx k) (h2 : s.heap.IsTupleIter i2 l2 k) (hl2 : s.heap.IsTuple l2 ys) (hx : x.cps[k]? = some c) (hy : ys[k]? = some y)
    (hQ : ∀ h', IsZip h' z TI TO (rawInt s.heap.objs.size) → IsPair h' TO (.str ⟨#[c]⟩ s.toks) y → h'.IsStrIter i1 "str_ascii_iterator" x tx (k + 1) → h'.IsTupleIter i2 l2 (k + 1) → IsPair h' s.heap.objs.size (.str ⟨#[c]⟩ s.toks) y → h'.objs.size = s.heap.objs.size + 1 →
      (∀ c o, c ≠ z → c ≠ TO → c ≠ i1 → c ≠ i2 → s.heap.get? c = some o → h'.get? c = some o) → Q (.ref s.heap.objs.size) { s with heap := h', toks := s.toks + 1 }) :
    wpAny (model prog w) A (Builtin.«zip.__next__» ⟨[.ref z], []⟩) (fun fin s' => ∃ v, fin = .done (.ret v) ∧ Q v s') E s := by
  show wpAny _ _ (field (.ref z) 2 >>= _) _ _ _
  refine wpAny_bind (wpAny_field hz rfl (x := .bool false) rfl ?_)
  show wpAny _ _ (field (.ref z) 3 >>= _) _ _ _
  refine wpAny_bind (wpAny_field hz rfl (x := .ref TI) rfl ?_)
  refine wpAny_bind (wpAny_seqItems hTI rfl ?_)
  show wpAny _ _ (Builtin.SmallTypes.ownedTupleIsFree (.ref z) >>= _) _ _ _
  refine wpAny_bind ?_
  unfold Builtin.SmallTypes.ownedTupleIsFree
  refine wpAny_bind (wpAny_field hz rfl (x := .none) rfl (wpAny_pure ?_))
  simp only [if_true]
  refine wpAny_bind (wpAny_rule ?_)
  refine wpAny_bind (wpAny_field hz rfl (x := .ref TO) rfl ?_)
  refine wpAny_bind (wpAny_setField_rec hz (by simp) fun h₁ hz₁ hs₁ => ?_)
  replace hz₁ : IsZip h₁ z TI TO .ellipsis := hz₁
  refine wpAny_bind ?_
  simp only [List.zipIdx_cons, List.zipIdx_nil, List.forIn_cons, List.forIn_nil]
  refine wpAny_bind (wpAny_bind (wpAny_onRaise ?_))
  show wpAny _ _ (Builtin.SmallTypes.nextOf (.ref i1) >>= _) _ _ _
  refine wpAny_bind (wpAny_nextOf_ascii_item (h1.extBut hs₁.extBut D.i1z) hx fun h₂ h1₂ hs₂ => wpAny_pure ?_)
  have hTO₂ : IsPair h₂ TO a b := hs₂.extBut _ _ D.TOi1 (hs₁.extBut _ _ D.TOz hTO)
  refine wpAny_bind (wpAny_seqItems hTO₂ rfl ?_)
  refine wpAny_bind (wpAny_updateSeq_pair hTO₂ fun h₃ hTO₃ hs₃ => ?_)
  replace hTO₃ : IsPair h₃ TO (.str ⟨#[c]⟩ s.toks) b := hTO₃
  refine wpAny_bind (wpAny_letGo (wpAny_pure ?_))
  refine wpAny_bind (wpAny_bind (wpAny_onRaise ?_))
  show wpAny _ _ (Builtin.SmallTypes.nextOf (.ref i2) >>= _) _ _ _
  refine wpAny_bind (nextOf_tuple_item (((h2.extBut hs₁.extBut D.i2z).extBut hs₂.extBut D.i12.symm).extBut hs₃.extBut D.TOi2.symm)
    (((hl2.extBut hs₁.extBut D.l2z).extBut hs₂.extBut D.l2i1).extBut hs₃.extBut D.l2TO) hy fun h₄ h2₄ hs₄ => wpAny_pure ?_)
  have hTO₄ : IsPair h₄ TO (.str ⟨#[c]⟩ s.toks) b := hs₄.extBut _ _ D.TOi2 hTO₃
  refine wpAny_bind (wpAny_seqItems hTO₄ rfl ?_)
  refine wpAny_bind (wpAny_updateSeq_pair hTO₄ fun h₅ hTO₅ hs₅ => ?_)
  replace hTO₅ : IsPair h₅ TO (.str ⟨#[c]⟩ s.toks) y := hTO₅
  refine wpAny_bind (wpAny_letGo (wpAny_pure (wpAny_pure ?_)))
  refine wpAny_bind (wpAny_seqItems hTO₅ rfl ?_)
  refine wpAny_bind (wpAny_newTuple ?_)
  have hsz : h₅.objs.size = s.heap.objs.size := by rw [hs₅.1, hs₄.1, hs₃.1, hs₂.1, hs₁.1]
  have hz₅ : IsZip h₅ z TI TO .ellipsis := hs₅.extBut _ _ D.TOz.symm (hs₄.extBut _ _ D.i2z.symm (hs₃.extBut _ _ D.TOz.symm (hs₂.extBut _ _ D.i1z.symm hz₁)))
  have hk₅ : ∀ c o, c ≠ z → c ≠ TO → c ≠ i1 → c ≠ i2 → s.heap.get? c = some o → h₅.get? c = some o := fun c o c1 c2 c3 c4 e =>
    hs₅.extBut _ _ c2 (hs₄.extBut _ _ c4 (hs₃.extBut _ _ c2 (hs₂.extBut _ _ c3 (hs₁.extBut _ _ c1 e))))
  have h1₅ : h₅.IsStrIter i1 "str_ascii_iterator" x tx (k + 1) := ((h1₂.extBut hs₃.extBut D.TOi1.symm).extBut hs₄.extBut D.i12).extBut hs₅.extBut D.TOi1.symm
  have h2₅ : h₅.IsTupleIter i2 l2 (k + 1) := h2₄.extBut hs₅.extBut D.TOi2.symm
  have hzlt : z < h₅.objs.size := Heap.lt_size hz₅
  show wpAny _ _ (Builtin.SmallTypes.ownedTupleHandOut (.ref z) (.ref h₅.objs.size) >>= _) _ _ _
  refine wpAny_bind ?_
  unfold Builtin.SmallTypes.ownedTupleHandOut
  have hz₆ : IsZip (h₅.push { cls := .type "tuple", data := .seq #[.str ⟨#[c]⟩ s.toks, y] }) z TI TO .ellipsis := Heap.get?_push_of_some _ hz₅
  refine wpAny_bind (wpAny_setField_rec hz₆ (by simp) fun h₇ hz₇ hs₇ => ?_)
  replace hz₇ : IsZip h₇ z TI TO (rawInt h₅.objs.size) := hz₇
  refine wpAny_setField_rec hz₇ (by simp) fun h₈ hz₈ hs₈ => ?_
  replace hz₈ : IsZip h₈ z TI TO (rawInt h₅.objs.size) := hz₈
  have up : ∀ c o, c ≠ z → h₅.get? c = some o → h₈.get? c = some o := fun c o c1 e => hs₈.extBut _ _ c1 (hs₇.extBut _ _ c1 (Heap.get?_push_of_some _ e))
  have hT₈ : IsPair h₈ h₅.objs.size (.str ⟨#[c]⟩ s.toks) y := hs₈.extBut _ _ (Nat.ne_of_gt hzlt) (hs₇.extBut _ _ (Nat.ne_of_gt hzlt) (Heap.get?_push_size _ rfl))
  have hz8 : h₈.objs.size = h₅.objs.size + 1 := by rw [hs₈.1, hs₇.1, Heap.size_push]
  rw [hsz] at hz₈ hT₈ hz8
  refine wpAny_pure ⟨_, rfl, ?_⟩
  show Q (.ref h₅.objs.size) _
  rw [hsz]
  refine hQ h₈ hz₈ (up _ _ D.TOz hTO₅) ?_ ?_ hT₈ hz8 fun c o c1 c2 c3 c4 e => up c o c1 (hk₅ c o c1 c2 c3 c4 e)
  · obtain ⟨o, e, r⟩ := h1₅
    exact ⟨o, up _ o D.i1z e, r⟩
  · obtain ⟨o, e, r⟩ := h2₅
    exact ⟨o, up _ o D.i2z e, r⟩
/-- the text is through -/
theorem zipST_end {z TI TO i1 i2 l2 : Addr} {k : Nat} {x : Str} {tx : Tok} {a b : Value} {Q : Fin → Shared → Prop} (hh : A.handled = none) (D : ZipApart z TI TO i1 i2 TI l2)
    (hz : IsZip s.heap z TI TO .none) (hTI : IsPair s.heap TI (.ref i1) (.ref i2)) (hTO : IsPair s.heap TO a b)
    (h1 : s.heap.IsStrIter i1 "str_ascii_iterator" x tx k) (hx : x.cps[k]? = none)
    (hE : ∀ h' e, (∀ c o, c ≠ z → c ≠ TO → c ≠ i1 → c ≠ i2 → s.heap.get? c = some o → h'.get? c = some o) → (∃ o, h'.get? e = some o ∧ o.cls = .type "StopIteration") → E (.ref e) { s with heap := h' }) :
    wpAny (model prog w) A (Builtin.«zip.__next__» ⟨[.ref z], []⟩) Q E s := by
  show wpAny _ _ (field (.ref z) 2 >>= _) _ _ _
  refine wpAny_bind (wpAny_field hz rfl (x := .bool false) rfl ?_)
  show wpAny _ _ (field (.ref z) 3 >>= _) _ _ _
  refine wpAny_bind (wpAny_field hz rfl (x := .ref TI) rfl ?_)
  refine wpAny_bind (wpAny_seqItems hTI rfl ?_)
  show wpAny _ _ (Builtin.SmallTypes.ownedTupleIsFree (.ref z) >>= _) _ _ _
  refine wpAny_bind ?_
  unfold Builtin.SmallTypes.ownedTupleIsFree
  refine wpAny_bind (wpAny_field hz rfl (x := .none) rfl (wpAny_pure ?_))
  simp only [if_true]
  refine wpAny_bind (wpAny_rule ?_)
  refine wpAny_bind (wpAny_field hz rfl (x := .ref TO) rfl ?_)
  refine wpAny_bind (wpAny_setField_rec hz (by simp) fun h₁ hz₁ hs₁ => ?_)
  replace hz₁ : IsZip h₁ z TI TO .ellipsis := hz₁
  refine wpAny_bind ?_
  simp only [List.zipIdx_cons, List.zipIdx_nil, List.forIn_cons, List.forIn_nil]
  refine wpAny_bind (wpAny_bind (wpAny_onRaise ?_))
  show wpAny _ _ (Builtin.SmallTypes.nextOf (.ref i1) >>= _) _ _ _
  refine wpAny_bind (wpAny_nextOf_ascii_end hh (h1.extBut hs₁.extBut D.i1z) hx fun h₂ e hs₂ he => ?_)
  obtain ⟨oe, hoe, hce⟩ := he
  have hz₂ : IsZip h₂ z TI TO .ellipsis := hs₂ _ _ D.i1z.symm hz₁
  have hez : e ≠ z := fun x => by subst x; rw [hz₂] at hoe; cases hoe; simp at hce
  refine wpAny_setField_rec hz₂ (by simp) fun h₃ _ hs₃ => hE h₃ e (fun c o c1 _ c3 _ x => hs₃.extBut _ _ c1 (hs₂ _ _ c3 (hs₁.extBut _ _ c1 x))) ⟨oe, hs₃.extBut _ _ hez hoe, hce⟩
theorem pyNext_zipST_item {z TI TO i1 i2 l2 : Addr} {k : Nat} {x : Str} {tx : Tok} {ys : Array Value} {c : Nat} {y a b : Value} {Q : Option Value → Shared → Prop} (D : ZipApart z TI TO i1 i2 TI l2)
    (hz : IsZip s.heap z TI TO .none) (hTI : IsPair s.heap TI (.ref i1) (.ref i2)) (hTO : IsPair s.heap TO a b)
    (h1 : s.heap.IsStrIter i1 "str_ascii_iterator" x tx k) (h2 : s.heap.IsTupleIter i2 l2 k) (hl2 : s.heap.IsTuple l2 ys) (hx : x.cps[k]? = some c) (hy : ys[k]? = some y)
    (hQ : ∀ h', IsZip h' z TI TO (rawInt s.heap.objs.size) → IsPair h' TO (.str ⟨#[c]⟩ s.toks) y → h'.IsStrIter i1 "str_ascii_iterator" x tx (k + 1) → h'.IsTupleIter i2 l2 (k + 1) → IsPair h' s.heap.objs.size (.str ⟨#[c]⟩ s.toks) y → h'.objs.size = s.heap.objs.size + 1 →
      (∀ c o, c ≠ z → c ≠ TO → c ≠ i1 → c ≠ i2 → s.heap.get? c = some o → h'.get? c = some o) → Q (some (.ref s.heap.objs.size)) { s with heap := h', toks := s.toks + 1 }) :
    wpAny (model prog w) A (pyNext (.ref z)) Q E s := by
  have hT : s.TypeIs (.ref z) "zip" := ⟨_, hz, rfl⟩
  unfold pyNext
  exact wpAny_bind (wpAny_attempt (wpAny_callSpecial?_slot (name := Str.ofString "__next__") hT F.slot_zip_next
    (wpAny_call_entry F.slot_zip_next hT F.entry_zip_next
      (zipST_item D hz hTI hTO h1 h2 hl2 hx hy fun h' a1 a2 a3 a4 a5 a6 a7 => wpAny_pure (hQ h' a1 a2 a3 a4 a5 a6 a7)) (F.args_zip_next_1 _))))
theorem pyNext_zipST_end {z TI TO i1 i2 l2 : Addr} {k : Nat} {x : Str} {tx : Tok} {a b : Value} {Q : Option Value → Shared → Prop} (hh : A.handled = none) (D : ZipApart z TI TO i1 i2 TI l2)
    (hz : IsZip s.heap z TI TO .none) (hTI : IsPair s.heap TI (.ref i1) (.ref i2)) (hTO : IsPair s.heap TO a b)
    (h1 : s.heap.IsStrIter i1 "str_ascii_iterator" x tx k) (hx : x.cps[k]? = none)
    (hQ : ∀ h', (∀ c o, c ≠ z → c ≠ TO → c ≠ i1 → c ≠ i2 → s.heap.get? c = some o → h'.get? c = some o) → Q none { s with heap := h' }) : wpAny (model prog w) A (pyNext (.ref z)) Q E s := by
  have hT : s.TypeIs (.ref z) "zip" := ⟨_, hz, rfl⟩
  unfold pyNext
  refine wpAny_bind (wpAny_attempt (wpAny_callSpecial?_slot (name := Str.ofString "__next__") hT F.slot_zip_next
    (wpAny_call_entry F.slot_zip_next hT F.entry_zip_next (zipST_end hh D hz hTI hTO h1 hx fun h' e hk he => ?_) (F.args_zip_next_1 _))))
  obtain ⟨o, ho, hc⟩ := he
  refine wpAny_bind (wpAny_isInstance (T := "StopIteration") (b := true) ⟨o, ho, hc⟩ isSubtype_stop ?_)
  exact wpAny_pure (hQ _ hk)
end

/-! zip(text, tuple) made -/
abbrev zs1 (h : Heap) (x : Str) (t : Tok) : Heap := h.push { cls := .type "str_ascii_iterator", data := .fields #[.str x t, .int 0 0] }
abbrev zs2 (h : Heap) (x : Str) (t : Tok) (l2 : Addr) : Heap := (zs1 h x t).push { cls := .type "tuple_iterator", data := .fields #[.ref l2, .int 0 0] }
abbrev zs3 (h : Heap) (x : Str) (t : Tok) (l2 : Addr) : Heap := (zs2 h x t l2).push { cls := .type "tuple", data := .seq #[.ref h.objs.size, .ref (zs1 h x t).objs.size] }
abbrev zs4 (h : Heap) (x : Str) (t : Tok) (l2 : Addr) : Heap := (zs3 h x t l2).push { cls := .type "tuple", data := .seq #[.none, .none] }
abbrev zs5 (h : Heap) (x : Str) (t : Tok) (l2 : Addr) : Heap := (zs4 h x t l2).push { cls := .type "zip", data := .fields #[.none, .bool false, .bool false, .ref (zs2 h x t l2).objs.size, .ref (zs3 h x t l2).objs.size] }
theorem meets_zipST_new (x : Str) (t : Tok) (l2 : Addr) (ys : Array Value) (ha : x.cps.all (· < 128) = true) :
    Meets (Builtin.«zip.__new__» ⟨[.type "zip", .str x t, .ref l2], []⟩) (fun _ R s => s.heap.IsTuple l2 ys ∧
      R (.ok (.ret (.ref (zs4 s.heap x t l2).objs.size))) { s with heap := zs5 s.heap x t l2 }) :=
  .of_wp fun prog w A R s h => by
    obtain ⟨hp, g, d, tk, os⟩ := s; obtain ⟨hl2, h⟩ := h
    have hsub := sub_zip
    have hL2 : Heap.IsTuple (Shared.heap ⟨hp.push { cls := .type "str_ascii_iterator", data := .fields #[.str x t, .int 0 0] }, g, d, tk, os⟩) l2 ys := Heap.IsTuple.push hl2 _
    wp_walk using wpAny_pyIter_ascii ha, wpAny_pyIter_tuple hL2
    exact ⟨_, rfl, h⟩
section
variable {prog : Program} {w : World} {A : Around} {E : Value → Shared → Prop} {s : Shared}
theorem call_zipST {x : Str} {t : Tok} {l2 : Addr} {ys : Array Value} {Q : Value → Shared → Prop} (ha : x.cps.all (· < 128) = true) (hl2 : s.heap.IsTuple l2 ys)
    (h : ∀ h', IsZip h' (s.heap.objs.size + 4) (s.heap.objs.size + 2) (s.heap.objs.size + 3) .none → IsPair h' (s.heap.objs.size + 2) (.ref s.heap.objs.size) (.ref (s.heap.objs.size + 1)) →
      IsPair h' (s.heap.objs.size + 3) .none .none → h'.IsStrIter s.heap.objs.size "str_ascii_iterator" x t 0 → h'.IsTupleIter (s.heap.objs.size + 1) l2 0 → h'.objs.size = s.heap.objs.size + 5 →
      (∀ c o, s.heap.get? c = some o → h'.get? c = some o) → Q (.ref (s.heap.objs.size + 4)) { s with heap := h' }) :
    wpAny (model prog w) A (call (.type "zip") [.str x t, .ref l2]) Q E s := by
  refine callType_new F.called_zip (by decide) (F.typeCall_zip_2 _ _) (F.newCall_zip_2 _ _) (fun obj => F.args_object_init_3 obj _ _) F.entry_zip_new
    (meets_zipST_new x t l2 ys ha) ⟨hl2, ?_⟩
  have z1 : (zs1 s.heap x t).objs.size = s.heap.objs.size + 1 := Heap.size_push ..
  have z2 : (zs2 s.heap x t l2).objs.size = s.heap.objs.size + 2 := by rw [Heap.size_push, z1]
  have z3 : (zs3 s.heap x t l2).objs.size = s.heap.objs.size + 3 := by rw [Heap.size_push, z2]
  have z4 : (zs4 s.heap x t l2).objs.size = s.heap.objs.size + 4 := by rw [Heap.size_push, z3]
  have z5 : (zs5 s.heap x t l2).objs.size = s.heap.objs.size + 5 := by rw [Heap.size_push, z4]
  have g5 : (zs5 s.heap x t l2).get? (zs4 s.heap x t l2).objs.size = some _ := Heap.get?_push_size _ rfl
  have g4 : (zs5 s.heap x t l2).get? (zs3 s.heap x t l2).objs.size = some _ := Heap.get?_push_of_some _ (Heap.get?_push_size _ rfl)
  have g3 : (zs5 s.heap x t l2).get? (zs2 s.heap x t l2).objs.size = some _ := Heap.get?_push_of_some _ (Heap.get?_push_of_some _ (Heap.get?_push_size _ rfl))
  have g2 : (zs5 s.heap x t l2).get? (zs1 s.heap x t).objs.size = some _ := Heap.get?_push_of_some _ (Heap.get?_push_of_some _ (Heap.get?_push_of_some _ (Heap.get?_push_size _ rfl)))
  have g1 : (zs5 s.heap x t l2).get? s.heap.objs.size = some _ := Heap.get?_push_of_some _ (Heap.get?_push_of_some _ (Heap.get?_push_of_some _ (Heap.get?_push_of_some _ (Heap.get?_push_size _ rfl))))
  show _ ∧ _
  rw [z2, z3, z4] at g5
  rw [z1, z2] at g3
  rw [z3] at g4
  rw [z1] at g2
  rw [z4]
  exact ⟨⟨_, g5, rfl⟩, h _ g5 g3 g4 ⟨_, g1, rfl, rfl⟩ ⟨_, g2, rfl, rfl⟩ z5 fun c o x =>
    Heap.get?_push_of_some _ (Heap.get?_push_of_some _ (Heap.get?_push_of_some _ (Heap.get?_push_of_some _ (Heap.get?_push_of_some _ x))))⟩
end
end L2

set_option maxHeartbeats 4000000
namespace L2
open PySem PySem.Spec PyProof.Rows

/-! ### records of ours have turned, a new object is laid -/
section
variable {X : Cx} {pins : List (Addr × Obj)} {σ : St} {H : Hp} {s : Shared} {h' : Heap} {ch : List Addr}
theorem Inv.turnedNew {a : Addr} {o : HO} {t' : Nat} (I : Inv X pins σ H s) (hf : ∀ b ∈ ch, FpOk X pins H b) (k : ∀ b u, b ∉ ch → s.heap.get? b = some u → h'.get? b = some u)
    (hp : s.heap.objs.size ≤ a) (new : ObjOk X.prog X.w (upd H a o) h' a o) : Inv X pins σ (upd H a o) { s with heap := h', toks := t' } := by
  have hn : H a = none := I.hok.fresh hp
  have nch : ∀ b u, H b = some u → b ∉ ch := fun b u e hb => by rw [(hf b hb).1] at e; cases e
  refine I.step (g' := s.gens) (d' := s.drawn) (ch := ch) (fun b hb => ?_) (fun b ob _ _ hc e _ => k b ob hc e) (fun b ob _ _ hc e _ => ⟨ob.slots, k b ob hc e⟩) (fun b ob hc e n => ?_)
    (fun b ob hc e => ⟨ob, k b ob hc e⟩) (fun b xs e => by rw [upd_ne (ne_of_none e hn)]; exact e) (fun b ob u e => by rw [upd_ne (ne_of_none e hn)]; exact e)
    (fun b ps e => ⟨#[], by rw [upd_ne (ne_of_none e hn), e]; simp⟩) (fun m hm => ?_) (fun b u e => ?_) I.bare
  · obtain ⟨_, f1, _, f3, f4, f5⟩ := hf b hb
    exact ⟨f3, f1, f4, f5⟩
  · rw [upd_ne (Nat.ne_of_lt (Nat.lt_of_lt_of_le (Heap.lt_size e) hp))]
    exact n
  · obtain ⟨ob, es, ep, ho, r⟩ := hm
    exact ⟨ob, es, ep, k _ ob (fun z => (hf _ z).2.1 rfl) ho, r⟩
  · by_cases hb : b = a
    · subst hb
      rw [upd_same] at e
      cases e
      exact new
    · rw [upd_ne hb] at e
      refine (I.hok b u e).stay (fun c v hc q => k c v ?_ q) (fun c q => by rw [upd_ne (ne_of_none q hn)]; exact q) fun c xs q => by rw [upd_ne (ne_of_none q hn)]; exact q
      rcases hc with z | z
      · rw [z]
        exact nch b u e
      · exact nch c _ z
theorem Inv.turnedAll {t' : Nat} (I : Inv X pins σ H s) (hf : ∀ b ∈ ch, FpOk X pins H b) (k : ∀ b u, b ∉ ch → s.heap.get? b = some u → h'.get? b = some u) : Inv X pins σ H { s with heap := h', toks := t' } := by
  have nch : ∀ b u, H b = some u → b ∉ ch := fun b u e hb => by rw [(hf b hb).1] at e; cases e
  refine I.step (g' := s.gens) (d' := s.drawn) (ch := ch) (fun b hb => ?_) (fun b ob _ _ hc e _ => k b ob hc e) (fun b ob _ _ hc e _ => ⟨ob.slots, k b ob hc e⟩) (fun _ _ _ _ n => n)
    (fun b ob hc e => ⟨ob, k b ob hc e⟩) (fun _ _ e => e) (fun _ _ _ e => e) (fun b ps e => ⟨#[], by rw [e]; simp⟩) (fun m hm => ?_) (fun b u e => ?_) I.bare
  · obtain ⟨_, f1, _, f3, f4, f5⟩ := hf b hb
    exact ⟨f3, f1, f4, f5⟩
  · obtain ⟨ob, es, ep, ho, r⟩ := hm
    exact ⟨ob, es, ep, k _ ob (fun z => (hf _ z).2.1 rfl) ho, r⟩
  · refine (I.hok b u e).stay (fun c v hc q => k c v ?_ q) (fun _ q => q) fun _ _ q => q
    rcases hc with z | z
    · rw [z]
      exact nch b u e
    · exact nch c _ z
end

/-! ### the signs of a text -/
def Its (x : Str) : It := ⟨fun i _ => i < x.cps.size, fun i H v H' => H' = H ∧ ∃ c, x.cps[i]? = some c ∧ v = .str ⟨#[c]⟩, fun i _ => x.cps.size ≤ i⟩
theorem go_str {M : Model} {A : Around} {E : Value → Shared → Prop} {s : Shared} {tg : Expr} {it : Value} {x : Str} {t : Tok} {Q : Unit → Shared → Prop} (hQ : Q () s) : wpAny M A (letOwnedTupleGo tg it (.str x t)) Q E s := by
  unfold letOwnedTupleGo
  cases tg <;> first
    | exact wpAny_pure hQ
    | (cases it <;> exact wpAny_pure hQ)
theorem turn_str {P : Program} {w : World} {K : PySem.W.Frag} {tg : Expr} {x : Str} {t : Tok} {T : String} {it : Addr}
    (W : ∀ A' : Around, A'.handled = none → Walks P w A' it [it] [it] x.cps.size (SignAt x) (fun i h => h.IsStrIter it T x t i))
    (hself : ∀ (A : Around) (i : Nat) (s : Shared) (Q : Value → Shared → Prop) (E : Value → Shared → Prop), s.heap.IsStrIter it T x t i → Q (.ref it) s → wpAny (model P w) A (pyIter (.ref it)) Q E s) :
    Turn P w K tg (Its x) [it] it (fun i h => i ≤ x.cps.size ∧ h.IsStrIter it T x t i) where
  mem := by simp
  obj := fun i h st b hb => by
    have e : b = it := by simpa using hb
    subst e
    obtain ⟨_, o, e, c, d⟩ := st
    exact ⟨o, e, fun v z => by rw [d] at z; cases z⟩
  keep := fun i h h' st k => by
    obtain ⟨hi, o, e, c⟩ := st
    exact ⟨hi, o, k it (by simp) o e, c⟩
  item := by
    intro X hP hw hK hc i pins s σ H E I hf st hg
    subst hP hw hK
    obtain ⟨f0, f1, f2, f3, f4, f5⟩ := hf it (by simp)
    refine (W X.A (I.ok.hd hc)).item i s _ _ hg st.2 fun v h' tk hv st' kk => ?_
    obtain ⟨c, u, hcx, rfl⟩ := hv
    have I1 : Inv X pins σ H { s with heap := h', toks := tk } := I.turned (fun b o hb e => kk b o (by simpa using hb) e) f0 f1 f3 f4 f5
    exact ⟨_, rfl, go_str ⟨.str ⟨#[c]⟩, H, I1, ⟨u, rfl⟩, ⟨rfl, c, hcx, rfl⟩, ⟨hg, st'⟩, fun b hb => (hf b hb).1⟩⟩
  done := by
    intro X hP hw hK hc i pins s σ H E I hf st hg
    subst hP hw hK
    obtain ⟨f0, f1, f2, f3, f4, f5⟩ := hf it (by simp)
    have e : i = x.cps.size := Nat.le_antisymm st.1 hg
    subst e
    exact (W X.A (I.ok.hd hc)).done s _ _ st.2 fun h' tk kk => ⟨rfl, I.turned (fun b o hb e => kk b o (by simpa using hb) e) f0 f1 f3 f4 f5⟩
  self := fun A i s Q E st h => hself A i s Q E st.2 h
def iStr (tl : TE) : TI := fun σ H R => tl σ H fun v H1 => ∃ x, v = .str x ∧ R (Its x) H1
section
variable {X : Cx} {tg : Expr}
theorem pi_str {l : Expr} {tl : TE} (hl : PE X l tl) : PI X tg l (iStr tl) := by
  intro pins s σ H R I h
  refine thn (hl pins s σ H _ I h) fun v s1 ⟨x, H1, I1, r1, q1⟩ => ?_
  obtain ⟨x, rfl, q⟩ := q1
  obtain ⟨t, rfl⟩ := r1
  have fp : ∀ b ∈ [s1.heap.objs.size], FpOk X pins H1 b := fun b hb => by
    have e : b = s1.heap.objs.size := by simpa using hb
    subst e
    exact I1.fpOk (Nat.le_refl _) (I1.hok.fresh (Nat.le_refl _))
  cases ha : x.cps.all (· < 128)
  · refine wpAny_pyIter_wide ha ?_
    exact ⟨s1.heap.objs.size, [s1.heap.objs.size], _, _, H1, rfl, I1.kept (t' := s1.toks) fun b o e => Heap.get?_push_of_some _ e,
      turn_str (T := "str_iterator") (fun A' hA => Walks.strWide hA _ x t) (fun A i s Q E st h => wpAny_pyIter_striter_wide st h), ⟨Nat.zero_le _, _, Heap.get?_push_size _ rfl, rfl, rfl⟩, fp, q⟩
  · refine wpAny_pyIter_ascii ha ?_
    exact ⟨s1.heap.objs.size, [s1.heap.objs.size], _, _, H1, rfl, I1.kept (t' := s1.toks) fun b o e => Heap.get?_push_of_some _ e,
      turn_str (T := "str_ascii_iterator") (fun A' hA => Walks.strAscii hA _ x t) (fun A i s Q E st h => wpAny_pyIter_striter_ascii st h), ⟨Nat.zero_le _, _, Heap.get?_push_size _ rfl, rfl, rfl⟩, fp, q⟩
end
/-- over a text's signs -/
theorem for_str {x : Str} {g : TG} {tb : TS} {D : Ends} {σ : St} {H : Hp} (Pv : Nat → St → Hp → Prop) (h0 : Pv 0 σ H)
    (hs : ∀ i c σ H, x.cps[i]? = some c → Pv i σ H → g (.str ⟨#[c]⟩) σ H fun σ2 H2 => tb { D with nx := Pv (i + 1), ct := Pv (i + 1), bk := D.nx } σ2 H2) (hd : ∀ σ H, Pv x.cps.size σ H → D.nx σ H) :
    ∃ W : Nat → Nat → St → Hp → Prop, (∃ m, W 0 m σ H) ∧ ∀ i m σ H, W i m σ H →
      ((Its x).stop i H ∧ D.nx σ H) ∨ ((Its x).go i H ∧ ∃ N : St → Hp → Prop, (∀ σ' H', N σ' H' → ∃ m', m' < m ∧ W (i + 1) m' σ' H') ∧ ∀ v H', (Its x).yld i H v H' → g v σ H' fun σ2 H2 => tb { D with nx := N, ct := N, bk := D.nx } σ2 H2) := by
  refine ⟨fun i m σ H => m = x.cps.size - i ∧ i ≤ x.cps.size ∧ Pv i σ H, ⟨x.cps.size, by simp, Nat.zero_le _, h0⟩, ?_⟩
  rintro i m σ H ⟨rfl, hi, p⟩
  by_cases hlt : i < x.cps.size
  · refine .inr ⟨hlt, Pv (i + 1), fun σ' H' p' => ⟨x.cps.size - (i + 1), by omega, rfl, hlt, p'⟩, fun v H' y => ?_⟩
    obtain ⟨e, c, hc, rfl⟩ := y
    subst e
    exact hs i c σ _ hc p
  · have e : i = x.cps.size := by omega
    subst e
    exact .inl ⟨Nat.le_refl _, hd σ H p⟩

/-! ### zip(text, tuple), its pairs unpacked -/
def Itz (x : Str) (l2 : Addr) : It :=
  ⟨fun i H => i < x.cps.size ∧ ∃ ys y, H l2 = some (.tup ys) ∧ ys[i]? = some y,
   fun i H v H' => ∃ c y p ys, x.cps[i]? = some c ∧ H l2 = some (.tup ys) ∧ ys[i]? = some y ∧ v = .ref p ∧ H p = none ∧ H' = upd H p (.tup [.str ⟨#[c]⟩, y]),
   fun i _ => x.cps.size ≤ i⟩
structure ZipNow (x : Str) (tx : Tok) (z TI TO i1 i2 l2 : Addr) (i : Nat) (h : Heap) : Prop where
  le : i ≤ x.cps.size
  zip : IsZip h z TI TO .none
  its : IsPair h TI (.ref i1) (.ref i2)
  own : ∃ a b, IsPair h TO a b
  one : h.IsStrIter i1 "str_ascii_iterator" x tx i
  two : h.IsTupleIter i2 l2 i
theorem turn_zip {P : Program} {w : World} {K : PySem.W.Frag} {es : List Expr} {kk : Nat} {tpos : Pos} {x : Str} {tx : Tok} {z TI TO i1 i2 l2 : Addr} (D : ZipApart z TI TO i1 i2 TI TI) :
    Turn P w K (.Tuple es kk tpos) (Itz x l2) [z, TI, TO, i1, i2] z (fun i h => ZipNow x tx z TI TO i1 i2 l2 i h) where
  mem := by simp
  obj := fun i h st b hb => by
    have hb' : b = z ∨ b = TI ∨ b = TO ∨ b = i1 ∨ b = i2 := by simpa using hb
    rcases hb' with rfl | rfl | rfl | rfl | rfl
    · exact ⟨_, st.zip, fun v q => by cases q⟩
    · exact ⟨_, st.its, fun v q => by cases q⟩
    · obtain ⟨a, b, e⟩ := st.own
      exact ⟨_, e, fun v q => by cases q⟩
    · obtain ⟨o, e, c, d⟩ := st.one
      exact ⟨o, e, fun v q => by rw [d] at q; cases q⟩
    · obtain ⟨o, e, c, d⟩ := st.two
      exact ⟨o, e, fun v q => by rw [d] at q; cases q⟩
  keep := fun i h h' st k => by
    obtain ⟨a, b, e⟩ := st.own
    obtain ⟨o1, e1, r1⟩ := st.one
    obtain ⟨o2, e2, r2⟩ := st.two
    exact ⟨st.le, k z (by simp) _ st.zip, k TI (by simp) _ st.its, ⟨a, b, k TO (by simp) _ e⟩, ⟨o1, k i1 (by simp) _ e1, r1⟩, ⟨o2, k i2 (by simp) _ e2, r2⟩⟩
  item := by
    intro X hP hw hK hc i pins s σ H E I hf st hg
    subst hP hw hK
    obtain ⟨hi, ys, y, hl2, hy⟩ := hg
    obtain ⟨a, b, hTO⟩ := st.own
    obtain ⟨its, rv, pl, hz⟩ := I.tuple (SqT.of hl2)
    obtain ⟨u, hu, ru⟩ := rv.get hy
    have nf : ∀ c ∈ [z, TI, TO, i1, i2], l2 ≠ c := fun c hc q => by subst q; rw [(hf _ hc).1] at hl2; cases hl2
    have D2 : ZipApart z TI TO i1 i2 TI l2 := ⟨D.TIz, D.TOz, D.i1z, D.i2z, D.TITO, D.TIi1, D.TIi2, D.TOi1, D.TOi2, D.i12, D.l1z, D.l1TO, D.l1i1, D.l1i2, nf z (by simp), nf TO (by simp), nf i1 (by simp), nf i2 (by simp)⟩
    have hx : x.cps[i]? = some x.cps[i] := by simp [hi]
    refine pyNext_zipST_item D2 st.zip st.its hTO st.one st.two (show s.heap.IsTuple l2 its.toArray from pl) hx (by simpa using hu) fun h' a1 a2 a3 a4 a5 a6 kk => ⟨_, rfl, ?_⟩
    refine wpAny_letOwnedTupleGo_zip a1 fun h'' hz'' hs'' => ?_
    have up : ∀ c o, c ≠ z → h'.get? c = some o → h''.get? c = some o := fun c o n e => hs''.extBut _ _ n e
    have lt : z < s.heap.objs.size := Heap.lt_size st.zip
    have pz : s.heap.objs.size ≠ z := Nat.ne_of_gt lt
    have hp := I.hok.fresh (Nat.le_refl s.heap.objs.size)
    have ch : ∀ b ∈ [z, TO, i1, i2], FpOk X pins H b := fun b hb => hf b (by simp at hb ⊢; rcases hb with q | q | q | q <;> simp [q])
    have I1 : Inv X pins σ (upd H s.heap.objs.size (.tup [.str ⟨#[x.cps[i]]⟩, y])) { s with heap := h'', toks := s.toks + 1 } := by
      refine I.turnedNew (ch := [z, TO, i1, i2]) ch (fun b o hb e => ?_) (Nat.le_refl _) ?_
      · have n : b ≠ z ∧ b ≠ TO ∧ b ≠ i1 ∧ b ≠ i2 := by simpa using hb
        exact up b o n.1 (kk b o n.1 n.2.1 n.2.2.1 n.2.2.2 e)
      · exact ⟨by show 2 ≤ sizeLine; decide, [.str ⟨#[x.cps[i]]⟩ s.toks, u], .cons ⟨_, rfl⟩ (.cons ru .nil), ⟨_, up _ _ pz a5, rfl, _, rfl⟩⟩
    refine ⟨.ref s.heap.objs.size, _, I1, rfl, ⟨_, y, _, ys, hx, hl2, hy, rfl, hp, rfl⟩, ⟨hi, hz'', ?_, ?_, ?_, ?_⟩, fun b hb => ?_⟩
    · exact up _ _ D.TIz (kk _ _ D.TIz D.TITO D.TIi1 D.TIi2 st.its)
    · exact ⟨_, _, up _ _ D.TOz a2⟩
    · obtain ⟨o, e, r⟩ := a3
      exact ⟨o, up _ o D.i1z e, r⟩
    · obtain ⟨o, e, r⟩ := a4
      exact ⟨o, up _ o D.i2z e, r⟩
    · have n : b ≠ s.heap.objs.size := by
        have hb' : b = z ∨ b = TI ∨ b = TO ∨ b = i1 ∨ b = i2 := by simpa using hb
        rcases hb' with rfl | rfl | rfl | rfl | rfl
        · exact Nat.ne_of_lt lt
        · exact Nat.ne_of_lt (Heap.lt_size st.its)
        · exact Nat.ne_of_lt (Heap.lt_size hTO)
        · obtain ⟨o, e, r⟩ := st.one
          exact Nat.ne_of_lt (Heap.lt_size e)
        · obtain ⟨o, e, r⟩ := st.two
          exact Nat.ne_of_lt (Heap.lt_size e)
      rw [upd_ne n]
      exact (hf b hb).1
  done := by
    intro X hP hw hK hc i pins s σ H E I hf st hg
    subst hP hw hK
    obtain ⟨a, b, hTO⟩ := st.own
    have e : i = x.cps.size := Nat.le_antisymm st.le hg
    have ch : ∀ b ∈ [z, TO, i1, i2], FpOk X pins H b := fun b hb => hf b (by simp at hb ⊢; rcases hb with q | q | q | q <;> simp [q])
    refine pyNext_zipST_end (I.ok.hd hc) D st.zip st.its hTO st.one (by rw [e]; simp) fun h' kk => ⟨rfl, ?_⟩
    refine I.turnedAll (t' := s.toks) (ch := [z, TO, i1, i2]) ch fun b o hb e => ?_
    have n : b ≠ z ∧ b ≠ TO ∧ b ≠ i1 ∧ b ≠ i2 := by simpa using hb
    exact kk b o n.1 n.2.1 n.2.2.1 n.2.2.2 e
  self := fun _ _ _ _ _ st h => wpAny_pyIter_zip st.zip h
def iZip (ta : TA) : TI := fun σ H R => ta σ H fun vs H1 => ∃ x l2 ys, vs = [.str x, .ref l2] ∧ x.cps.all (· < 128) = true ∧ H1 l2 = some (.tup ys) ∧ R (Itz x l2) H1
section
variable {X : Cx}
theorem pi_zip {a b : Expr} {ta : TA} {p pos tpos : Pos} {es : List Expr} {kk : Nat} (hg : Gl X "zip") (hm : X.mg "zip" = none) (ha : PA X [a, b] ta) (hs : starEach [a, b] X.env = [(false, eval a X.env), (false, eval b X.env)] := by rfl) (hs2 : starEach [b] X.env = [(false, eval b X.env)] := by rfl) :
    PI X (.Tuple es kk tpos) (.Call (.Name "zip" p) [a, b] [] pos) (iZip ta) := by
  intro pins s σ H R I h
  refine Call_ (ld_blt I hg hm boot_zip (PyProof.Rows.callWith_type1 (thn (ha pos pins s σ H _ I h) fun us s1 ⟨vs, H1, I1, r1, q1⟩ => ?_) (by rw [hs, hs2]) (by rw [hs2]; rfl)))
  obtain ⟨x, l2, ys, e, has, hl2, q⟩ := q1
  subst e
  cases r1 with
  | cons r rr =>
    cases rr with
    | cons r' rr =>
      cases rr
      obtain ⟨t, rfl⟩ := r
      cases r'
      obtain ⟨its, rv, pl, hz⟩ := I1.tuple (SqT.of hl2)
      refine call_zipST has (show s1.heap.IsTuple l2 its.toArray from pl) fun h' a1 a2 a3 a4 a5 a6 kk => ?_
      refine wpAny_pyIter_zip a1 ?_
      have I2 : Inv X pins σ H1 { s1 with heap := h' } := I1.kept (t' := s1.toks) kk
      refine ⟨s1.heap.objs.size + 4, [s1.heap.objs.size + 4, s1.heap.objs.size + 2, s1.heap.objs.size + 3, s1.heap.objs.size, s1.heap.objs.size + 1], _, _, H1, rfl, I2, turn_zip (x := x) (tx := t) (l2 := l2) ?_, ⟨Nat.zero_le _, a1, a2, ⟨_, _, a3⟩, a4, a5⟩, fun b hb => ?_, q⟩
      · constructor <;> first | exact Nat.ne_of_lt (by omega) | exact Nat.ne_of_gt (by omega)
      · have hb' : s1.heap.objs.size ≤ b := by
          have hb' : b = s1.heap.objs.size + 4 ∨ b = s1.heap.objs.size + 2 ∨ b = s1.heap.objs.size + 3 ∨ b = s1.heap.objs.size ∨ b = s1.heap.objs.size + 1 := by simpa using hb
          rcases hb' with q | q | q | q | q
          · rw [q]; exact Nat.le_add_right _ _
          · rw [q]; exact Nat.le_add_right _ _
          · rw [q]; exact Nat.le_add_right _ _
          · rw [q]; exact Nat.le_refl _
          · rw [q]; exact Nat.le_add_right _ _
        exact I1.fpOk hb' (I1.hok.fresh hb')
end
theorem for_zip {x : Str} {l2 : Addr} {ys : List V} {g : TG} {tb : TS} {D : Ends} {σ : St} {H : Hp} (hn : x.cps.size ≤ ys.length) (Pv : Nat → St → Hp → Prop) (h0 : Pv 0 σ H) (hl : ∀ i σ H, i ≤ x.cps.size → Pv i σ H → H l2 = some (.tup ys))
    (hs : ∀ (i : Nat) c y p σ H, x.cps[i]? = some c → ys[i]? = some y → Pv i σ H → H p = none → g (.ref p) σ (upd H p (.tup [.str ⟨#[c]⟩, y])) fun σ2 H2 => tb { D with nx := Pv (i + 1), ct := Pv (i + 1), bk := D.nx } σ2 H2)
    (hd : ∀ σ H, Pv x.cps.size σ H → D.nx σ H) :
    ∃ W : Nat → Nat → St → Hp → Prop, (∃ m, W 0 m σ H) ∧ ∀ i m σ H, W i m σ H →
      ((Itz x l2).stop i H ∧ D.nx σ H) ∨ ((Itz x l2).go i H ∧ ∃ N : St → Hp → Prop, (∀ σ' H', N σ' H' → ∃ m', m' < m ∧ W (i + 1) m' σ' H') ∧ ∀ v H', (Itz x l2).yld i H v H' → g v σ H' fun σ2 H2 => tb { D with nx := N, ct := N, bk := D.nx } σ2 H2) := by
  refine ⟨fun i m σ H => m = x.cps.size - i ∧ i ≤ x.cps.size ∧ Pv i σ H, ⟨x.cps.size, by simp, Nat.zero_le _, h0⟩, ?_⟩
  rintro i m σ H ⟨rfl, hi, p⟩
  have q := hl i σ H hi p
  by_cases hlt : i < x.cps.size
  · have hy : ys[i]? = some (ys[i]'(by omega)) := by simp
    refine .inr ⟨⟨hlt, ys, _, q, hy⟩, Pv (i + 1), fun σ' H' p' => ⟨x.cps.size - (i + 1), by omega, rfl, hlt, p'⟩, fun v H' y => ?_⟩
    obtain ⟨c, y, pa, zs, hc, hz, hy', rfl, hp, rfl⟩ := y
    rw [q] at hz
    cases hz
    exact hs i c y pa σ H hc hy' p hp
  · have e : i = x.cps.size := by omega
    subst e
    exact .inl ⟨Nat.le_refl _, hd σ H p⟩
end L2

set_option maxHeartbeats 4000000
namespace L2
open PySem
open PySem.Sem (wp)
section
variable {prog : Program} {w : World} {A : Around} {E : Value → Shared → Prop} {R : Result → Shared → Prop} {s : Shared}
/-- a comprehension's loop, any target -/
theorem compLoop_any {elt target iter : Expr} {ifs : List Expr} {scope : Scope} {pos : Pos} {it acc : Value} {env : Env} (I : Nat → Shared → Prop)
    (turn : ∀ n s, I n s → wpAny (model prog w) A (pyNext it) (fun r s₁ => match r with
      | none => R (.ok .next) s₁
      | some v => wpAny (model prog w) A (letOwnedTupleGo target it v) (fun _ s₁' => wpAny (model prog w) A (assign target env v) (fun _ s₂ =>
          wpAny (model prog w) A (forIn ifs true fun c r => if r = true then do let ok ← isTrue c env (eval c env); pure (ForInStep.yield ok) else pure (ForInStep.yield r)) (fun ok s₃ =>
            if ok = true then wpAny (model prog w) A (eval elt env) (fun x s₄ =>
              wpAny (model prog w) A (call (.builtin "list.append") [acc, x]) (fun _ s₅ => ∃ m, m < n ∧ I m s₅) (notedBy (model prog w) A env fun e s' => R (.error e) s') s₄) (notedBy (model prog w) A env fun e s' => R (.error e) s') s₃
            else ∃ m, m < n ∧ I m s₃) (notedBy (model prog w) A env fun e s' => R (.error e) s') s₂) (notedBy (model prog w) A env fun e s' => R (.error e) s') s₁')
          (notedBy (model prog w) A env fun e s' => R (.error e) s') s₁) (notedBy (model prog w) A env fun e s' => R (.error e) s') s)
    (n : Nat) (h : I n s) :
    codeAny (model prog w) A (.compLoop (.ListComp elt [⟨target, iter, ifs, 0⟩] scope pos) 0 it acc env) R s := by
  refine codeAny_loop rfl I (fun n s hI => ?_) n h
  show wpAny _ A ((compTurn (.ListComp elt [⟨target, iter, ifs, 0⟩] scope pos) 0 it acc env).onRaise (fun x => do noteFrame x env; theTreesLotGoes x)) _ _ s
  refine wpAny_noted ?_
  rw [compTurn_list]
  refine wpAny_bind (wpAny_standAt (wpAny_bind (wpAny_mono (turn n s hI) (fun r s₁ h₁ => ?_) fun _ _ h' => h')))
  cases r with
  | none => exact wpAny_pure h₁
  | some v =>
    refine wpAny_bind (wpAny_mono h₁ (fun _ s₁' h₁' => ?_) fun _ _ h' => h')
    refine wpAny_bind (wpAny_mono h₁' (fun _ s₂ h₂ => wpAny_bind (wpAny_mono h₂ (fun ok s₃ h₃ => ?_) fun _ _ h' => h')) fun _ _ h' => h')
    cases ok with
    | false =>
      simp only [Bool.false_eq_true, if_false] at h₃ ⊢
      first
        | exact wpAny_pure ⟨rfl, h₃⟩
        | exact wpAny_bind (wpAny_pure (wpAny_pure ⟨rfl, h₃⟩))
    | true =>
      simp only [if_true] at h₃ ⊢
      first
        | exact wpAny_bind (wpAny_bind (wpAny_mono h₃ (fun x s₄ h₄ => wpAny_bind (wpAny_mono h₄ (fun _ s₅ h₅ => wpAny_pure (wpAny_pure ⟨rfl, h₅⟩)) fun _ _ h' => h')) fun _ _ h' => h'))
        | exact wpAny_bind (wpAny_mono h₃ (fun x s₄ h₄ => wpAny_bind (wpAny_mono h₄ (fun _ s₅ h₅ => wpAny_pure ⟨rfl, h₅⟩) fun _ _ h' => h')) fun _ _ h' => h')
end
end L2

set_option maxHeartbeats 4000000
namespace L2
open PySem PySem.Spec PyProof.Rows

/-! ### list comprehensions of one clause -/
/-- the block's context: its own names and the captured ones -/
def cxComp (X : Cx) (N' : List Str) (scope : Scope) (cl : List (Str × Addr)) (C : Addr) (s₃ : Shared) (H₃ : Hp) (fp : List Addr) : Cx :=
  { X with N := N', s₀ := s₃, H₀ := H₃, env := compEnvC scope cl C X.env, outer := X.stack, stack := X.stack, ex := fp, fn := fun _ => false, pn := [], xe := fun _ _ => False }
/-- the captured values -/
def capσ (cap : List (Option Nat)) (σ : St) : St := cap.map fun o => o.bind fun j => (σ[j]?).join
structure CompScope (X : Cx) (N' : List Str) (cap : List (Option Nat)) (scope : Scope) (cl : List (Str × Addr)) : Prop where
  kind : scope.kind = .function
  nocell : ∀ y ∈ scope.names, y.2 ≠ .cell
  names : ∀ y ∈ scope.names, y.2 = .local → scope.names.lookup y.1 = some .local
  clos : closureFor scope X.env = pure cl
  len : cap.length = N'.length
  nd : N'.Nodup
  sub : ∀ x c, cl.lookup x = some c → X.env.cells.lookup x = some c
  hasF : ∀ p ∈ scope.names, p.2 = .free → ∃ c, cl.lookup p.1 = some c
  capF : ∀ (i : Nat) x j, N'[i]? = some x → cap[i]? = some (some j) → X.N[j]? = some x ∧ (X.env.kindOf x = some .cell ∨ X.env.kindOf x = some .free) ∧ scope.names.lookup x = some .free
theorem lookup_relabel {env : Env} (x : Str) : ∀ names : List (Str × NameKind), (names.map fun (n, k) => if (k == NameKind.free && env.scope.kind == .function && env.kindOf n == some .cell) then (n, NameKind.cell) else (n, k)).lookup x =
    (names.lookup x).map fun k => if (k == NameKind.free && env.scope.kind == .function && env.kindOf x == some .cell) then NameKind.cell else k
  | [] => rfl
  | (n, k) :: r => by
    have ih := lookup_relabel (env := env) x r
    show List.lookup x ((if (k == NameKind.free && env.scope.kind == .function && env.kindOf n == some .cell) = true then (n, NameKind.cell) else (n, k)) :: _) = _
    cases hx : x == n with
    | true =>
      have e : x = n := eq_of_beq hx
      subst e
      by_cases hc : (k == NameKind.free && env.scope.kind == .function && env.kindOf x == some .cell) = true
      · rw [if_pos hc]
        simp only [List.lookup_cons, hx, Option.map_some, hc, if_true]
      · rw [if_neg hc]
        simp only [List.lookup_cons, hx, Option.map_some, hc]
        simp
    | false =>
      by_cases hc : (k == NameKind.free && env.scope.kind == .function && env.kindOf n == some .cell) = true
      · rw [if_pos hc]; simp only [List.lookup_cons, hx]; exact ih
      · rw [if_neg hc]; simp only [List.lookup_cons, hx]; exact ih
theorem CompScope.has {X : Cx} {N' : List Str} {cap : List (Option Nat)} {scope : Scope} {cl : List (Str × Addr)} (S : CompScope X N' cap scope cl) (x : Str)
    (h : (relabel scope X.env).names.lookup x = some .cell ∨ (relabel scope X.env).names.lookup x = some .free) : ∃ c, cl.lookup x = some c := by
  have hf : scope.names.lookup x = some .free := by
    have e : (relabel scope X.env).names.lookup x = _ := lookup_relabel x scope.names
    rw [e] at h
    cases q : scope.names.lookup x with
    | none => rw [q] at h; rcases h with h | h <;> cases h
    | some k =>
      have hk : k ≠ .cell := S.nocell (x, k) (PySem.mem_of_lookup q)
      by_cases hkf : k = .free
      · rw [hkf]
      · exfalso
        rw [q] at h
        have z : (k == NameKind.free) = false := by simpa using hkf
        simp only [Option.map_some, z, Bool.false_and, Bool.false_eq_true, if_false] at h
        rcases h with h | h
        · exact hk (Option.some.inj h)
        · exact hkf (Option.some.inj h)
  exact S.hasF (x, .free) (PySem.mem_of_lookup hf) rfl
theorem CompScope.cap {X : Cx} {N' : List Str} {cap : List (Option Nat)} {scope : Scope} {cl : List (Str × Addr)} (S : CompScope X N' cap scope cl) (i : Nat) (x : Str) (j : Nat) (h1 : N'[i]? = some x) (h2 : cap[i]? = some (some j)) :
    X.N[j]? = some x ∧ (X.env.kindOf x = some .cell ∨ X.env.kindOf x = some .free) ∧ ((relabel scope X.env).names.lookup x = some .cell ∨ (relabel scope X.env).names.lookup x = some .free) := by
  obtain ⟨a, b, c⟩ := S.capF i x j h1 h2
  refine ⟨a, b, ?_⟩
  have e : (relabel scope X.env).names.lookup x = _ := lookup_relabel x scope.names
  rw [e, c]
  simp only [Option.map_some]
  split
  · exact .inl rfl
  · exact .inr rfl
/-- the tests of the clause -/
def PF (X : Cx) (ifs : List Expr) (t : TT) : Prop :=
  ∀ (pins : List (Addr × Obj)) (s : Shared) (σ : St) (H : Hp) (Q : Bool → Hp → Prop), Inv X pins σ H s → t σ H Q →
    wpAny (model X.prog X.w) X.A (forIn ifs true fun c r => if r = true then do let ok ← isTrue c X.env (eval c X.env); pure (ForInStep.yield ok) else pure (ForInStep.yield r)) (TP X pins σ Q) X.xe s
theorem pf_nil {X : Cx} : PF X [] (fun _ H Q => Q true H) := fun _ _ _ H _ I h => wpAny_tests_nil ⟨H, I, h⟩
theorem pf_one {X : Cx} {c : Expr} {t : TT} (h : PT X c t) : PF X [c] t := fun pins s σ H Q I hw => wpAny_tests_one (h pins s σ H Q I hw)
/-- the loop's word: D the list that is made -/
def CompW (J : It) (g : TG) (ti : TT) (te : TE) (D : Addr) (σ₀ : St) (H₀ : Hp) (Q : Hp → Prop) : Prop :=
  ∃ W : Nat → Nat → St → Hp → Prop, (∃ m, W 0 m σ₀ H₀) ∧ ∀ i m σ H, W i m σ H → (J.stop i H ∧ Q H) ∨ (J.go i H ∧ ∃ N : St → Hp → Prop, (∀ σ' H', N σ' H' → ∃ m', m' < m ∧ W (i + 1) m' σ' H') ∧ ∀ x H', J.yld i H x H' → g x σ H' fun σ2 H2 => ti σ2 H2 fun b H3 =>
    if b = true then te σ2 H3 fun v H4 => ∃ xs, H4 D = some (.lst xs) ∧ xs.length < sizeLine ∧ N σ2 (upd H4 D (.lst (xs ++ [v]))) else N σ2 H3)
def tComp (cap : List (Option Nat)) (wi : TI) (g : TG) (ti : TT) (te : TE) : TE := fun σ H Q => wi σ H fun J H1 => ∀ D, H1 D = none → CompW J g ti te D (capσ cap σ) (upd H1 D (.lst [])) (Q (.ref D))

section
variable {X : Cx} {tg iter elt : Expr} {ifs : List Expr} {scope : Scope} {pos : Pos} {cl : List (Str × Addr)} {N' : List Str} {cap : List (Option Nat)} {wi : TI} {g : TG} {ti : TT} {te : TE}
theorem comp_core {pins : List (Addr × Obj)} {σ : St} {H2 : Hp} {s2 : Shared} {it : Addr} {fp : List Addr} {tn : Nat → Heap → Prop} {J : It} {E : Value → Shared → Prop} {Q : VK} {RR : Value → Addr → Result → Shared → Prop}
    (hc : X.calm = true) (S : CompScope X N' cap scope cl) (I2 : Inv X pins σ H2 s2) (T : Turn X.prog X.w X.K tg J fp it tn) (st2 : tn 0 s2.heap) (f2 : ∀ b ∈ fp, FpOk X pins H2 b)
    (hg : ∀ C s₃ H₃ fp, PG (cxComp X N' scope cl C s₃ H₃ fp) tg g) (ht : ∀ C s₃ H₃ fp, PF (cxComp X N' scope cl C s₃ H₃ fp) ifs ti) (he : ∀ C s₃ H₃ fp, PE (cxComp X N' scope cl C s₃ H₃ fp) elt te)
    (hW : ∀ D, H2 D = none → CompW J g ti te D (capσ cap σ) (upd H2 D (.lst [])) (Q (.ref D)))
    (hRR : ∀ D C s' H', (∃ m, s'.heap.Ns C m) → Inv X pins σ H' s' → FpOk X pins H' C → Q (.ref D) H' → RR (.ref D) C (.ok .next) s') :
    wpAny (model X.prog X.w) X.A (newList []) (fun acc s₃ => wpAny (model X.prog X.w) X.A (newFunctionEnv scope X.env.globals cl [] X.env.qual none .none (some X.env)) (fun cenv s₄ =>
      codeAny (model X.prog X.w) X.A (.compStart (.ListComp elt [⟨tg, iter, ifs, 0⟩] scope pos) 0 (.ref it) acc { cenv with scope := relabel scope X.env }) (RR acc cenv.locals) s₄) E s₃) E s2 := by
  refine wpAny_newObj_type (wpAny_newFunctionEnv S.nocell (by intro y hy; simp at hy) (fun h₁ hns₁ hsb₁ => ?_) S.kind)
  dsimp only at hns₁ hsb₁ ⊢
  have I3 : Inv X pins σ (upd H2 s2.heap.objs.size (.lst [])) { s2 with heap := s2.heap.push { cls := .type "list", dict := none, data := .seq ([] : List Value).toArray }, toks := s2.toks } := I2.lnew (its := []) (t' := s2.toks) .nil (Nat.zero_le _)
  generalize hs3 : ({ s2 with heap := s2.heap.push { cls := .type "list", dict := none, data := .seq ([] : List Value).toArray }, toks := s2.toks } : Shared) = s3 at I3
  have eh3 : s3.heap = s2.heap.push { cls := .type "list", dict := none, data := .seq ([] : List Value).toArray } := by rw [← hs3]
  have eo3 : s3.os = s2.os := by rw [← hs3]
  have eg3 : s3.gens = s2.gens := by rw [← hs3]
  have hD : H2 s2.heap.objs.size = none := I2.fresh
  rw [← eh3] at hns₁ hsb₁ ⊢
  generalize hC : s3.heap.objs.size = C at hns₁ hsb₁ ⊢
  have hCle : s3.heap.objs.size ≤ C := Nat.le_of_eq hC
  -- what stood stands
  have old : ∀ b o, s3.heap.get? b = some o → h₁.get? b = some o := fun b o e => hsb₁.extBut b o (Nat.ne_of_lt (Nat.lt_of_lt_of_le (Heap.lt_size e) hCle)) (Heap.get?_push_of_some _ e)
  have up2 : ∀ b o, s2.heap.get? b = some o → h₁.get? b = some o := fun b o e => old b o (by rw [eh3]; exact Heap.get?_push_of_some _ e)
  have H3C : upd H2 s2.heap.objs.size (.lst []) C = none := I3.hok.fresh hCle
  have fpH3 : ∀ b ∈ fp, upd H2 s2.heap.objs.size (.lst []) b = none := fun b hb => by
    obtain ⟨o, e, _⟩ := T.obj 0 _ st2 b hb
    rw [upd_ne (Nat.ne_of_lt (Heap.lt_size e))]
    exact (f2 b hb).1
  have fpC : ∀ b ∈ fp, b ≠ C := fun b hb q => by
    obtain ⟨o, e, _⟩ := T.obj 0 _ st2 b hb
    have h3 : s2.heap.objs.size ≤ s3.heap.objs.size := by rw [eh3, Heap.size_push]; exact Nat.le_succ _
    have h4 := Nat.lt_of_lt_of_le (Nat.lt_of_lt_of_le (Heap.lt_size e) h3) hCle
    rw [q] at h4
    exact absurd h4 (Nat.lt_irrefl _)
  have cellsC : ∀ x c, cl.lookup x = some c → c ≠ C := fun x c e q => by
    obtain ⟨v, z⟩ := I3.cell x c (S.sub x c e)
    have h4 := Nat.lt_of_lt_of_le z.lt hCle
    rw [q] at h4
    exact absurd h4 (Nat.lt_irrefl _)
  let X' : Cx := cxComp X N' scope cl C s3 (upd H2 s2.heap.objs.size (.lst [])) fp
  have okX' : X'.Ok := by
    refine ⟨I3.ok.mod, S.kind, I3.ok.glob, I3.ok.blt, hCle, fun x y c e1 e2 => I3.ok.inj x y c (S.sub x c e1) (S.sub y c e2), fun x hx => S.has x hx, fun x c z _ => absurd (show false = true from z) (by simp), I3.ok.hd, I3.ok.frames, .inl rfl,
      fun b hb => ⟨fpC b hb, fun x c e => (f2 b hb).2.2.2.2.1 x c (S.sub x c e)⟩, I3.bs, Nat.le_trans I3.ok.bsz I3.sz, fun b o e hb => ?_, fun b hb z => ?_, I3.stack, I3.stkFree⟩
    · rcases (f2 b hb).2.2.2.1 with q | q
      · exact I3.ok.noex b o e q
      · exact absurd (Nat.lt_of_lt_of_le (Heap.lt_size (I3.ok.bs b o e).1) q) (Nat.lt_irrefl _)
    · rcases List.mem_cons.mp (I3.stkSub b z) with q | q
      · exact (f2 b hb).2.1 q
      · exact (f2 b hb).2.2.1 q
  have J0 : ∀ tk, Inv X' [] (capσ cap σ) (upd H2 s2.heap.objs.size (.lst [])) { s2 with heap := h₁, toks := tk } := fun tk => by
    refine ⟨okX', eo3.symm, I2.bare, Un.kept old, ⟨_, hns₁, fun i x v e1 e2 e3 => ?_⟩, fun x c e => ?_, H3C, fun x c e => I3.freeC x c (S.sub x c e), fun p hp => absurd (show p ∈ ([] : List (Addr × Obj)) from hp) (by simp), I3.hok.kept old, ?_⟩
    · have e1 : N'[i]? = some x := e1
      unfold capσ at e2
      rw [List.getElem?_map] at e2
      cases ec : cap[i]? with
      | none => rw [ec] at e2; cases e2
      | some o =>
        rw [ec] at e2
        cases o with
        | none => cases e2
        | some j =>
          have e2 : (σ[j]?).join = some v := Option.some.inj e2
          obtain ⟨hj, hk, hr⟩ := S.cap i x j e1 ec
          have ej : σ[j]? = some (some v) := by
            cases q : σ[j]? with
            | none => rw [q] at e2; cases e2
            | some o => rw [q] at e2; cases o with
              | none => cases e2
              | some v' => cases e2; rfl
          obtain ⟨m, hn, hl⟩ := I3.loc
          obtain ⟨u, r, l⟩ := hl j x v hj ej (by rcases hk with z | z; exact .inr (.inl z); exact .inr (.inr z))
          refine ⟨u, r, .inr ⟨hr, ?_⟩⟩
          obtain ⟨c, ecl⟩ := S.has x hr
          rcases l with ⟨z, _⟩ | ⟨_, c', ec', hcell⟩
          · rcases hk with y | y
            · rw [y] at z; cases z
            · rw [y] at z; cases z
          · have := S.sub x c ecl
            rw [this] at ec'
            cases ec'
            obtain ⟨oc, hoc, hd⟩ := hcell
            exact ⟨c, ecl, oc, old c oc hoc, hd⟩
    · obtain ⟨v, oc, hoc, hd⟩ := I3.cell x c (S.sub x c e)
      exact ⟨v, oc, old c oc hoc, hd⟩
    · show (capσ cap σ).length = N'.length
      unfold capσ
      rw [List.length_map]
      exact S.len
  have stat : ∀ {H' : Hp}, (∀ b ∈ fp, H' b = none) → ∀ b ∈ fp, FpOk X' [] H' b := fun hn b hb =>
    ⟨hn b hb, fpC b hb, okX'.exfs b hb, .inl hb, fun x c e => (f2 b hb).2.2.2.2.1 x c (S.sub x c e), fun p hp => absurd (show p ∈ ([] : List (Addr × Obj)) from hp) (by simp)⟩
  obtain ⟨W, ⟨m0, w0⟩, turn⟩ := hW _ hD
  have st1 : tn 0 h₁ := T.keep 0 _ _ st2 fun b _ o e => up2 b o e
  -- the end
  have fin : ∀ {σ' : St} {H' : Hp} {s' : Shared}, Inv X' [] σ' H' s' → Q (.ref s2.heap.objs.size) H' → RR (.ref s2.heap.objs.size) C (.ok .next) s' := fun {σ' H' s'} J q => by
    obtain ⟨m, hn, _⟩ := J.loc
    have un : Un (frs X.stack) fp (upd H2 s2.heap.objs.size (.lst [])) H' s3.heap s'.heap := J.base
    have I' : Inv X pins σ H' s' := I3.call' (show s'.os = s3.os from J.os) un J.hok J.bare fun b hb => ⟨(f2 b hb).2.2.2.1, (f2 b hb).2.1, (f2 b hb).2.2.2.2.1, (f2 b hb).2.2.2.2.2⟩
    exact hRR _ C s' H' ⟨m, hn⟩ I' (I3.fpOk hCle J.free) q
  have loop : ∀ tk, codeAny (model X.prog X.w) X.A (.compLoop (.ListComp elt [⟨tg, iter, ifs, 0⟩] scope pos) 0 (.ref it) (.ref s2.heap.objs.size) (compEnvC scope cl C X.env)) (RR (.ref s2.heap.objs.size) C) { s2 with heap := h₁, toks := tk } := fun tk => by
    refine compLoop_any (fun n s' => ∃ i σ' H', Inv X' [] σ' H' s' ∧ tn i s'.heap ∧ (∀ b ∈ fp, H' b = none) ∧ W i n σ' H') ?_ m0 ⟨0, capσ cap σ, _, J0 tk, st1, fpH3, w0⟩
    rintro n s4 ⟨i, σ4, H4, I4, st4, fr4, w4⟩
    rcases turn i n σ4 H4 w4 with ⟨stop, q⟩ | ⟨go, N, hN, step⟩
    · refine thn (T.done X' rfl rfl rfl hc i [] s4 σ4 H4 _ I4 (stat fr4) st4 stop) fun r s5 ⟨hr, I5⟩ => ?_
      subst hr
      exact fin I5 q
    · refine thn (T.item X' rfl rfl rfl hc i [] s4 σ4 H4 _ I4 (stat fr4) st4 go) fun r s5 ⟨u, hr, h5⟩ => ?_
      subst hr
      refine thn h5 fun _ s6 ⟨x, H6, I6, r6, y6, st6, fr6⟩ => ?_
      have I6' := I6.pinned (stat fr6) (T.obj _ _ st6)
      have back : ∀ {σ7 : St} {H7 : Hp} {s7 : Shared}, Inv X' ([] ++ pinsAt fp s6.heap) σ7 H7 s7 → N σ7 H7 → ∃ m, m < n ∧ ∃ i σ' H', Inv X' [] σ' H' s7 ∧ tn i s7.heap ∧ (∀ b ∈ fp, H' b = none) ∧ W i m σ' H' := fun {σ7 H7 s7} I7 n7 => by
        obtain ⟨m', hm, w7⟩ := hN σ7 H7 n7
        refine ⟨m', hm, i + 1, σ7, H7, I7.unpinned, T.keep _ _ _ st6 fun b hb o e => (I7.pin (b, o) (List.mem_append_right _ (List.mem_append_right _ (mem_pinsAt hb e)))).1, fun b hb => ?_, w7⟩
        obtain ⟨o, e, d⟩ := T.obj _ _ st6 b hb
        exact (I7.pin (b, o) (List.mem_append_right _ (List.mem_append_right _ (mem_pinsAt hb e)))).2.1
      refine wpAny_mono (hg C s3 _ fp _ s6 σ4 H6 x u _ I6' r6 (step x H6 y6)) (fun _ s7 ⟨σ7, H7, I7, q7⟩ => ?_) fun _ _ f => f.elim
      refine wpAny_mono (ht C s3 _ fp _ s7 σ7 H7 _ I7 q7) (fun b s8 ⟨H8, I8, q8⟩ => ?_) fun _ _ f => f.elim
      cases b with
      | false =>
        rw [if_neg Bool.false_ne_true] at q8 ⊢
        exact back I8 q8
      | true =>
        rw [if_pos rfl] at q8 ⊢
        refine wpAny_mono (he C s3 _ fp _ s8 σ7 H8 _ I8 q8) (fun u9 s9 ⟨v9, H9, I9, r9, xs, hD9, hl9, q9⟩ => ?_) fun _ _ f => f.elim
        refine wpAny_mono (mt_append (X := X') _ s9 σ7 H9 (.ref s2.heap.objs.size) [v9] (.ref s2.heap.objs.size) [u9] (fun _ H' => N σ7 H') I9 rfl (.cons r9 .nil) ⟨_, xs, v9, rfl, rfl, hD9, hl9, q9⟩) (fun _ s10 ⟨_, H10, I10, _, q10⟩ => ?_) fun _ _ f => f.elim
        exact back I10 q10
  exact codeAny_compStart_list (loop _) (T.self _ 0 _ _ _ st1 (loop _))

/-- the comprehension as a value -/
theorem pe_comp (hc : X.calm = true) (S : CompScope X N' cap scope cl) (hi : PI X tg iter wi)
    (hg : ∀ C s₃ H₃ fp, PG (cxComp X N' scope cl C s₃ H₃ fp) tg g) (ht : ∀ C s₃ H₃ fp, PF (cxComp X N' scope cl C s₃ H₃ fp) ifs ti) (he : ∀ C s₃ H₃ fp, PE (cxComp X N' scope cl C s₃ H₃ fp) elt te)
    (hs : ∀ x, foldedSetIterable iter X.env x = pure x := by intro _; rfl) : PE X (.ListComp elt [⟨tg, iter, ifs, 0⟩] scope pos) (tComp cap wi g ti te) := by
  intro pins s σ H Q I hw
  rw [eval_ListComp]
  refine wpAny_comprehension_free (use := none) rfl hs S.clos S.kind S.names (thn (hi pins s σ H _ I hw) fun v s1 h1 => thn h1 fun itv s2 h2 => ?_)
  obtain ⟨it, fp, tn, J, H2, e, I2, T, st2, f2, hW⟩ := h2
  subst e
  refine comp_core (RR := fun acc C => compPost (model X.prog X.w) X.A X.xe none (EP X pins σ Q) acc C) hc S I2 T st2 f2 hg ht he hW ?_
  intro D C s' H' hn I' fC q
  obtain ⟨m, hn⟩ := hn
  refine ⟨m, hn, fun h' hs' => ?_⟩
  obtain ⟨f0, f1, _, f3, f4, f5⟩ := fC
  exact ⟨.ref D, H', I'.turned (t' := s'.toks) (fun b o hb e => (hs'.2 b hb).trans e) f0 f1 f3 f4 f5, rfl, q⟩
/-- y = [..], where the stores are exchanged -/
theorem ps_setComp {i : Nat} {y : Str} {py spos : Pos} (hN : X.N.Nodup) (hyi : X.N[i]? = some y) (hy : Loc X.env.scope y) (hc : X.calm = true) (S : CompScope X N' cap scope cl) (hi : PI X tg iter wi)
    (hg : ∀ C s₃ H₃ fp, PG (cxComp X N' scope cl C s₃ H₃ fp) tg g) (ht : ∀ C s₃ H₃ fp, PF (cxComp X N' scope cl C s₃ H₃ fp) ifs ti) (he : ∀ C s₃ H₃ fp, PE (cxComp X N' scope cl C s₃ H₃ fp) elt te)
    (hsw : swapsWith (.ListComp elt [⟨tg, iter, ifs, 0⟩] scope pos) (some (.Name y py)) spos.line X.env = pure true := by rfl)
    (hs : ∀ x, foldedSetIterable iter X.env x = pure x := by intro _; rfl) (hf : X.fn y = true ∨ X.env.scope.names.lookup y = some .local := by first | exact .inl rfl | exact .inr rfl | assumption) :
    PS X (.Assign [.Name y py] (.ListComp elt [⟨tg, iter, ifs, 0⟩] scope pos) spos) (tAsg (tComp cap wi g ti te) (gName i)) := by
  intro pins s σ H Dd I hw
  rw [exec_Assign_Name_used _ _ _ _ hsw]
  refine wpAny_bind (wpAny_standAt (wpAny_bind ?_))
  show wpAny _ X.A (do let _ ← comprehension (.ListComp elt [⟨tg, iter, ifs, 0⟩] scope pos) scope X.env _ (newList []) false (eval iter X.env) (some (assign (.Name y py) X.env))) _ _ s
  refine wpAny_bind (wpAny_mono (wpAny_comprehension_free (use := some (assign (.Name y py) X.env)) (Q := fun _ s' => SP X pins Dd .next s') rfl hs S.clos S.kind S.names
    (thn (hi pins s σ H _ I hw) fun v s1 h1 => thn h1 fun itv s2 h2 => ?_)) (fun _ s' hq => wpAny_pure (wpAny_pure hq)) fun _ _ e => e)
  obtain ⟨it, fp, tn, J, H2, e, I2, T, st2, f2, hW⟩ := h2
  subst e
  refine comp_core (RR := fun acc C => compPost (model X.prog X.w) X.A X.xe (some (assign (.Name y py) X.env)) (fun _ s' => SP X pins Dd .next s') acc C) (Q := fun v H' => Dd.nx (σ.set i (some v)) H') hc S I2 T st2 f2 hg ht he hW ?_
  intro D C s' H' hn I' fC q
  obtain ⟨m, hn⟩ := hn
  obtain ⟨f0, f1, _, f3, f4, f5⟩ := fC
  show wpAny _ X.A (assign (.Name y py) X.env (.ref D)) _ _ _
  refine wpAny_assign_Name (store_ok2 (v := .ref D) I' hN hyi hy rfl (fun s'' I'' sb => ?_) hf)
  obtain ⟨a, sb, ha⟩ := sb
  have hCa : C ≠ a := by
    rcases ha with q | q
    · rw [q]; exact f1
    · exact fun z => f4 y a q z.symm
  refine ⟨m, hn.sameBut sb hCa, fun h' hs' => ?_⟩
  exact ⟨_, H', I''.turned (t' := s''.toks) (fun b o hb e => (hs'.2 b hb).trans e) f0 f1 f3 f4 f5, q⟩
end

/-! ### the forms one uses -/
theorem comp_list {K : PySem.W.Frag} {a : Addr} {xs : List V} {g : TG} {ti : TT} {te : TE} {D : Addr} {σ₀ : St} {H₀ : Hp} {Q : Hp → Prop} (Pv : Nat → St → Hp → Prop)
    (h0 : Pv 0 σ₀ H₀) (hl : ∀ i σ H, i ≤ xs.length → Pv i σ H → SqL K H a xs)
    (hs : ∀ (i : Nat) x σ H, xs[i]? = some x → Pv i σ H → g x σ H fun σ2 H2 => ti σ2 H2 fun b H3 => if b = true then te σ2 H3 fun v H4 => ∃ ys, H4 D = some (.lst ys) ∧ ys.length < sizeLine ∧ Pv (i + 1) σ2 (upd H4 D (.lst (ys ++ [v]))) else Pv (i + 1) σ2 H3)
    (hd : ∀ σ H, Pv xs.length σ H → Q H) : CompW (Itl K a) g ti te D σ₀ H₀ Q := by
  refine ⟨fun i m σ H => m = xs.length - i ∧ i ≤ xs.length ∧ Pv i σ H, ⟨xs.length, by simp, Nat.zero_le _, h0⟩, ?_⟩
  rintro i m σ H ⟨rfl, hi, p⟩
  have q := hl i σ H hi p
  by_cases hlt : i < xs.length
  · refine .inr ⟨⟨xs, xs[i], q, by simp [hlt]⟩, Pv (i + 1), fun σ' H' p' => ⟨xs.length - (i + 1), by omega, rfl, hlt, p'⟩, fun x H' y => ?_⟩
    obtain ⟨e, y⟩ := y
    subst e
    exact hs i x σ _ (y xs q) p
  · have e : i = xs.length := by omega
    subst e
    exact .inl ⟨⟨xs, q, Nat.le_refl _⟩, hd σ H p⟩
theorem comp_range {lo : Int} {n : Nat} {g : TG} {ti : TT} {te : TE} {D : Addr} {σ₀ : St} {H₀ : Hp} {Q : Hp → Prop} (Pv : Nat → St → Hp → Prop)
    (h0 : Pv 0 σ₀ H₀)
    (hs : ∀ (i : Nat) σ H, i < n → Pv i σ H → g (.int (lo + i)) σ H fun σ2 H2 => ti σ2 H2 fun b H3 => if b = true then te σ2 H3 fun v H4 => ∃ ys, H4 D = some (.lst ys) ∧ ys.length < sizeLine ∧ Pv (i + 1) σ2 (upd H4 D (.lst (ys ++ [v]))) else Pv (i + 1) σ2 H3)
    (hd : ∀ σ H, Pv n σ H → Q H) : CompW (Itr lo n) g ti te D σ₀ H₀ Q := by
  refine ⟨fun i m σ H => m = n - i ∧ i ≤ n ∧ Pv i σ H, ⟨n, by simp, Nat.zero_le _, h0⟩, ?_⟩
  rintro i m σ H ⟨rfl, hi, p⟩
  by_cases hlt : i < n
  · refine .inr ⟨hlt, Pv (i + 1), fun σ' H' p' => ⟨n - (i + 1), by omega, rfl, hlt, p'⟩, fun x H' y => ?_⟩
    obtain ⟨e, y⟩ := y
    subst e y
    exact hs i σ _ hlt p
  · have e : i = n := by omega
    subst e
    exact .inl ⟨Nat.le_refl _, hd σ H p⟩
end L2

namespace Hs
/-! ### houses and walks -/
structure Rm where
  l : Nat
  r : Nat
  lit : Bool
deriving DecidableEq, Inhabited
def stp (hs : List Rm) (i : Nat) (b : Bool) : Nat := match hs[i]? with
  | some r => if b then r.r else r.l
  | none => 0
def led (hs : List Rm) (i : Nat) (w : List Bool) : Nat := w.foldl (stp hs) i
def litAt (hs : List Rm) (i : Nat) : Bool := match hs[i]? with
  | some r => r.lit
  | none => false
structure Wf (hs : List Rm) : Prop where
  ne : 0 < hs.length
  ex : ∀ r ∈ hs, r.l < hs.length ∧ r.r < hs.length
theorem Wf.stp {hs : List Rm} (h : Wf hs) {i : Nat} (hi : i < hs.length) (b : Bool) : stp hs i b < hs.length := by
  unfold Hs.stp
  have e : hs[i]? = some hs[i] := by simp [hi]
  rw [e]
  have := h.ex hs[i] (List.getElem_mem hi)
  cases b
  · exact this.1
  · exact this.2
theorem led_snoc (hs : List Rm) (i : Nat) (w : List Bool) (b : Bool) : led hs i (w ++ [b]) = stp hs (led hs i w) b := by
  unfold led
  rw [List.foldl_append]
  rfl
theorem led_append (hs : List Rm) (i : Nat) (w v : List Bool) : led hs i (w ++ v) = led hs (led hs i w) v := by
  unfold led
  rw [List.foldl_append]
theorem Wf.led {hs : List Rm} (h : Wf hs) : ∀ (w : List Bool) {i : Nat}, i < hs.length → led hs i w < hs.length
  | [], _, hi => hi
  | b :: w, _, hi => Wf.led h w (h.stp hi b)
/-! ### the drawn house -/
def cellN (ns : List Int) (k : Nat) : Int := if ns = [] then (k : Int) else ns.getD k 0
def farN (ns : List Int) (k : Nat) : Int := if ns = [] then (k : Int) else ns.getD ((k + 1) % max 1 ns.length) 0
def roomOf (ns : List Int) (k : Nat) : Rm :=
  ⟨((cellN ns k + k) % ((max 1 ns.length : Nat) : Int)).toNat, ((farN ns k / 3 + 2 * k + 1) % ((max 1 ns.length : Nat) : Int)).toNat, decide (farN ns k % 3 = 0)⟩
def drawn (ns : List Int) : List Rm := (List.range (max 1 ns.length)).map (roomOf ns)
theorem drawn_length (ns : List Int) : (drawn ns).length = max 1 ns.length := by simp [drawn]
theorem drawn_wf (ns : List Int) : Wf (drawn ns) := by
  have hp : 0 < max 1 ns.length := by omega
  refine ⟨by rw [drawn_length]; exact hp, fun r hr => ?_⟩
  rw [drawn_length]
  obtain ⟨k, _, rfl⟩ := List.mem_map.mp hr
  have h1 := Int.emod_lt_of_pos (cellN ns k + k) (show (0 : Int) < ((max 1 ns.length : Nat) : Int) by omega)
  have h2 := Int.emod_lt_of_pos (farN ns k / 3 + 2 * k + 1) (show (0 : Int) < ((max 1 ns.length : Nat) : Int) by omega)
  exact ⟨by show ((cellN ns k + k) % ((max 1 ns.length : Nat) : Int)).toNat < _; omega, by show ((farN ns k / 3 + 2 * k + 1) % ((max 1 ns.length : Nat) : Int)).toNat < _; omega⟩
theorem drawn_get (ns : List Int) {k : Nat} (hk : k < max 1 ns.length) : (drawn ns)[k]? = some (roomOf ns k) := by
  simp [drawn, hk]
theorem drawn_take (ns : List Int) {k : Nat} (hk : k < max 1 ns.length) : (drawn ns).take (k + 1) = (drawn ns).take k ++ [roomOf ns k] := by
  rw [List.take_add_one, drawn_get ns hk]
  rfl
/-! ### the walks of a length, in order -/
def level (hs : List Rm) : Nat → List (List Bool × Nat)
  | 0 => [([], 0)]
  | k + 1 => (level hs k).flatMap fun p => [(p.1 ++ [false], stp hs p.2 false), (p.1 ++ [true], stp hs p.2 true)]
def bits : Nat → Nat → List Bool
  | 0, _ => []
  | k + 1, j => bits k (j / 2) ++ [j % 2 == 1]
theorem bits_length : ∀ k j, (bits k j).length = k
  | 0, _ => rfl
  | k + 1, j => by simp [bits, bits_length k (j / 2)]
theorem bits_front : ∀ k j, bits (k + 1) j = ((j / 2 ^ k) % 2 == 1) :: bits k j
  | 0, j => by simp [bits]
  | k + 1, j => by
    rw [bits, bits_front k (j / 2)]
    have e : j / 2 / 2 ^ k = j / 2 ^ (k + 1) := by rw [Nat.div_div_eq_div_mul, Nat.pow_succ, Nat.mul_comm]
    rw [e]
    rfl
theorem range_double {α : Type} (f : Nat → α) : ∀ n, (List.range (2 * n)).map f = (List.range n).flatMap fun j => [f (2 * j), f (2 * j + 1)]
  | 0 => rfl
  | n + 1 => by
    rw [show 2 * (n + 1) = 2 * n + 1 + 1 by omega, List.range_succ, List.range_succ, List.range_succ, List.flatMap_append, ← range_double f n]
    simp
theorem level_eq (hs : List Rm) : ∀ k, level hs k = (List.range (2 ^ k)).map fun j => (bits k j, led hs 0 (bits k j))
  | 0 => rfl
  | k + 1 => by
    rw [level, level_eq hs k, Nat.pow_succ, Nat.mul_comm, range_double, List.flatMap_map]
    congr 1
    funext j
    have e1 : bits (k + 1) (2 * j) = bits k j ++ [false] := by
      rw [bits, show 2 * j / 2 = j by omega, show 2 * j % 2 = 0 by omega]; rfl
    have e2 : bits (k + 1) (2 * j + 1) = bits k j ++ [true] := by
      rw [bits, show (2 * j + 1) / 2 = j by omega, show (2 * j + 1) % 2 = 1 by omega]; rfl
    rw [e1, e2, led_snoc, led_snoc]
theorem level_length (hs : List Rm) (k : Nat) : (level hs k).length = 2 ^ k := by rw [level_eq]; simp
theorem level_len (hs : List Rm) {k : Nat} {p : List Bool × Nat} (h : p ∈ level hs k) : p.1.length = k := by
  rw [level_eq] at h
  obtain ⟨j, _, rfl⟩ := List.mem_map.mp h
  exact bits_length k j
theorem level_lt {hs : List Rm} (w : Wf hs) {k : Nat} {p : List Bool × Nat} (h : p ∈ level hs k) : p.2 < hs.length := by
  rw [level_eq] at h
  obtain ⟨j, _, rfl⟩ := List.mem_map.mp h
  exact w.led _ w.ne
/-- those of one length that are let pass -/
def pass (hs : List Rm) (k : Nat) : List (List Bool) := ((level hs k).filter fun p => litAt hs p.2).map (·.1)
def upTo (hs : List Rm) (n : Nat) : List (List Bool) := (List.range n).flatMap (pass hs)
theorem upTo_succ (hs : List Rm) (n : Nat) : upTo hs (n + 1) = upTo hs n ++ pass hs n := by simp [upTo, List.range_succ]
theorem pass_length (hs : List Rm) (k : Nat) : (pass hs k).length ≤ 2 ^ k := by
  unfold pass
  rw [List.length_map, ← level_length hs k]
  exact List.length_filter_le _ _
theorem upTo_length (hs : List Rm) : ∀ n, (upTo hs n).length < 2 ^ n
  | 0 => by simp [upTo]
  | n + 1 => by
    rw [upTo_succ, List.length_append, Nat.pow_succ]
    have h1 := upTo_length hs n
    have h2 := pass_length hs n
    omega
/-- the same, number by number -/
def passN (hs : List Rm) (k n : Nat) : List (List Bool) := ((List.range n).filter fun j => litAt hs (led hs 0 (bits k j))).map (bits k)
theorem pass_eq (hs : List Rm) (k : Nat) : pass hs k = passN hs k (2 ^ k) := by
  unfold pass passN
  rw [level_eq, List.filter_map, List.map_map]
  rfl
theorem passN_succ (hs : List Rm) (k n : Nat) : passN hs k (n + 1) = passN hs k n ++ (if litAt hs (led hs 0 (bits k n)) then [bits k n] else []) := by
  unfold passN
  rw [List.range_succ, List.filter_append, List.map_append]
  cases h : litAt hs (led hs 0 (bits k n)) <;> simp [h]
theorem passN_length (hs : List Rm) (k n : Nat) : (passN hs k n).length ≤ n := by
  unfold passN
  rw [List.length_map]
  have := List.length_filter_le (fun j => litAt hs (led hs 0 (bits k j))) (List.range n)
  simpa using this
end Hs

set_option maxHeartbeats 4000000
namespace L2
open PySem PySem.Spec PyProof.Rows

/-! ### exceptions that leave a def -/
theorem ObjOk.there {P : Program} {w : World} {H : Hp} {h : Heap} {a : Addr} {o : HO} (x : ObjOk P w H h a o) : ∃ ob, h.get? a = some ob := by
  cases o with
  | lst xs => obtain ⟨_, _, _, _, e⟩ := x; exact ⟨_, e⟩
  | tup xs => obtain ⟨_, _, _, o, e, _⟩ := x; exact ⟨o, e⟩
  | dK kvs => obtain ⟨_, _, _, _, o, _, _, e, _⟩ := x; exact ⟨o, e⟩
  | dT kvs => obtain ⟨_, _, _, _, o, _, _, e, _⟩ := x; exact ⟨o, e⟩
  | set S n => obtain ⟨o, _, _, _, e, _⟩ := x; exact ⟨o, e⟩
  | ins C dx fs => obtain ⟨_, _, _, e, _⟩ := x; exact ⟨_, e⟩
  | own y => obtain ⟨o, e⟩ := x; exact ⟨o, e⟩
  | xd fs => obtain ⟨_, ⟨o, _, _, e, _⟩, _⟩ := x; exact ⟨o, e⟩
  | rng lo hi => obtain ⟨_, _, _, e⟩ := x; exact ⟨_, e⟩
  | frz ob u => obtain ⟨e, _⟩ := x; exact ⟨_, e⟩
  | tbl ps => exact ⟨_, (show h.get? a = some _ from x)⟩
  | met f y => exact ⟨_, (show h.get? a = some _ from x)⟩
  | ext φ => obtain ⟨_, ⟨o, e⟩, _⟩ := x; exact ⟨o, e⟩
/-- the exception v flies at s': B is what the flight leaves as it is -/
def CXF (P : Program) (w : World) : CXT := fun outer H s E v s' =>
  ∃ (e : Addr) (cls a0 : Value) (H' : Hp) (B : Heap), v = .ref e ∧ s'.os = s.os ∧ AllBare s'.gens ∧ Un (frs outer) [] H H' s.heap s'.heap ∧ HOk P w H' s'.heap ∧ Heap.FlyingW B outer e cls a0 s'.heap ∧
    (∀ b, (H' b ≠ none ∨ (s.heap.get? b).isSome = true) → b ∉ frs outer → ∃ o, B.get? b = some o) ∧ E cls none H'
section
variable {X : Cx} {pins : List (Addr × Obj)} {σ : St} {H H' : Hp} {s s' : Shared} {B h'' : Heap}
/-- a step of the flight: what B holds stays, the rest but records up to slots -/
theorem Inv.settle (I : Inv X pins σ H s) (I' : Inv X pins σ H' s') (kB : ∀ b, (H' b ≠ none ∨ (s.heap.get? b).isSome = true) → b ∉ frs X.stack → ∃ o, B.get? b = some o)
    (st : B.StaysIn s'.heap) (st' : B.StaysIn h'') (up : s'.heap.UpToSlots h'') : Inv X pins σ H' { s' with heap := h'' } := by
  have old : ∀ b o, s'.heap.get? b = some o → (H' b ≠ none ∨ (s.heap.get? b).isSome = true) → b ∉ frs X.stack → h''.get? b = some o := fun b o e k n => by
    obtain ⟨o', e'⟩ := kB b k n
    have := st b o' e'
    rw [e] at this
    cases this
    exact st' b _ e'
  have trk : ∀ b u, H' b = some u → ∀ o, s'.heap.get? b = some o → h''.get? b = some o := fun b u e o q =>
    old b o q (.inl (by rw [e]; simp)) fun z => by
      have := I'.stkFree b z
      rw [e] at this
      cases this
  have cellK : ∀ x c, X.env.cells.lookup x = some c → ∀ v, s'.heap.IsCell c v → h''.IsCell c v := fun x c e v ⟨o, ho, hd⟩ => by
    obtain ⟨sl, q⟩ := up c o ho (fun vs z => by rw [hd] at z; cases z)
    exact ⟨_, q, hd⟩
  have neL : ∀ b o, X.s₀.heap.get? b = some o → b ≠ X.env.locals := fun b o e => Nat.ne_of_lt (Nat.lt_of_lt_of_le (Heap.lt_size e) I.ok.above)
  refine ⟨I'.ok, I'.os, I'.bare, ⟨fun b o e n hb hx => ?_, fun b o e n hb hx => ?_, I'.base.free, fun b o e hx => ?_, I'.base.tups, I'.base.frzs, I'.base.tbls⟩, ?_, fun x c e => ?_, I'.free, I'.freeC, fun p hp => ?_, fun b u e => ?_, I'.len⟩
  · obtain ⟨o', e1⟩ := I.base.there b o e hx
    exact old b o (I'.base.keep b o e n hb hx) (.inr (by rw [e1]; rfl)) fun z => (List.mem_cons.mp (I.stkSub b z)).elim (neL b o e) hb
  · obtain ⟨sl, e1⟩ := I'.base.slot b o e n hb hx
    obtain ⟨_, o2, ho2, hd2⟩ := I'.funs.mem hb
    rw [e1] at ho2
    cases ho2
    obtain ⟨sl', e2⟩ := up b _ e1 hd2
    exact ⟨sl', e2⟩
  · obtain ⟨o', e1⟩ := I'.base.there b o e hx
    obtain ⟨o1, e2⟩ := I.base.there b o e hx
    by_cases hb : b ∈ X.fs
    · obtain ⟨_, o2, ho2, hd2⟩ := I'.funs.mem hb
      obtain ⟨sl', e3⟩ := up b o2 ho2 hd2
      exact ⟨_, e3⟩
    · exact ⟨o', old b o' e1 (.inr (by rw [e2]; rfl)) fun z => (List.mem_cons.mp (I.stkSub b z)).elim (neL b o e) hb⟩
  · obtain ⟨m, hn, hl⟩ := I'.loc
    refine ⟨m, up.ns hn, fun i x v e1 e2 e3 => ?_⟩
    obtain ⟨u, r, l⟩ := hl i x v e1 e2 e3
    refine ⟨u, r, ?_⟩
    rcases l with l | ⟨k, c, e, z⟩
    · exact .inl l
    · exact .inr ⟨k, c, e, cellK x c e _ z⟩
  · obtain ⟨v, z⟩ := I'.cell x c e
    exact ⟨v, cellK x c e v z⟩
  · obtain ⟨e, n, ne, nf, d⟩ := I'.pin p hp
    obtain ⟨e1, _⟩ := I.pin p hp
    exact ⟨old p.1 p.2 e (.inr (by rw [e1]; rfl)) fun z => (List.mem_cons.mp (I.stkSub p.1 z)).elim ne nf, n, ne, nf, d⟩
  · exact (I'.hok b u e).stay (fun c v hc q => by
      rcases hc with z | z
      · subst z
        exact trk c u e v q
      · exact trk c _ z v q) (fun _ q => q) fun _ _ q => q
/-- behind a callee's exception -/
theorem Inv.flown {e cls a0} (I : Inv X pins σ H s) (os : s'.os = s.os) (bare : AllBare s'.gens) (un : Un (frs X.stack) [] H H' s.heap s'.heap) (hok : HOk X.prog X.w H' s'.heap) (fl : Heap.FlyingW B X.stack e cls a0 s'.heap) : Inv X pins σ H' s' :=
  I.call' (ch := []) os un hok bare (fun b z => absurd z (by simp))
/-- an exception just made: the heap without the frames is B -/
theorem made_B {h' : Heap} {e : Addr} {cls : Value} {vs : List Value} (I : Inv X pins σ H s) (hx : Heap.MadeExcOf s.heap h' e cls vs) :
    (∀ b, (H b ≠ none ∨ (s.heap.get? b).isSome = true) → b ∉ frs X.stack → ∃ o, (PySem.W.hideAll s.heap (frs X.stack)).get? b = some o) ∧ (PySem.W.hideAll s.heap (frs X.stack)).StaysIn h' ∧ (PySem.W.hideAll s.heap (frs X.stack)).StaysIn s.heap ∧
      s.heap.FunFrames (PySem.W.hideAll s.heap (frs X.stack)) X.stack := by
  refine ⟨fun b k n => ?_, fun b o q => hx.keeps b o (PySem.W.of_hideAll _ q), fun b o q => PySem.W.of_hideAll _ q, PySem.W.funFrames_hide I.stack fun env he a ha => ?_⟩
  · have : ∃ o, s.heap.get? b = some o := by
      rcases k with k | k
      · cases q : H b with
        | none => exact absurd q k
        | some u => exact (I.hok b u q).there
      · exact Option.isSome_iff_exists.mp k
    obtain ⟨o, ho⟩ := this
    exact ⟨o, PySem.W.hideAll_get _ ho n⟩
  · exact List.mem_filterMap.mpr ⟨env, he, ha⟩
end
/-- what leaves this body's frame reaches the caller as CXF says, with the wish E -/
structure LeavesF (X : Cx) (E : XK) : Prop where
  ex : X.ex = []
  stk : X.stack = X.env :: X.outer
  fr : X.env.frame = some X.env.locals
  to : ∀ v s', wpAny (model X.prog X.w) X.A (leaving X.env v) (fun _ s'' => CXF X.prog X.w X.outer X.H₀ X.s₀ E v s'') (fun e' s'' => CXF X.prog X.w X.outer X.H₀ X.s₀ E e' s'') s' → X.xe v s'
section
variable {X : Cx} {E : XK}
theorem LeavesF.fin {pins : List (Addr × Obj)} {σ : St} {H H' : Hp} {s s' : Shared} {B h'' : Heap} {e : Addr} {cls a0 : Value} (L : LeavesF X E) (I : Inv X pins σ H s) (I' : Inv X pins σ H' s') (kB : ∀ b, (H' b ≠ none ∨ (s.heap.get? b).isSome = true) → b ∉ frs X.stack → ∃ o, B.get? b = some o)
    (st : B.StaysIn s'.heap) (up : s'.heap.UpToSlots h'') (fl : Heap.FlyingW B X.outer e cls a0 h'') (hE : E cls none H') : CXF X.prog X.w X.outer X.H₀ X.s₀ E (.ref e) { s' with heap := h'' } := by
  have I2 := I.settle I' kB st fl.1 up
  have un := I2.base
  rw [L.ex] at un
  refine ⟨e, cls, a0, H', B, rfl, I2.os, I2.bare, un, I2.hok, fl, fun b k n => ?_, hE⟩
  have nL : b ≠ X.env.locals := fun z => by
    rcases k with k | k
    · exact k (by rw [z]; exact I'.free)
    · obtain ⟨o, ho⟩ := Option.isSome_iff_exists.mp k
      exact absurd (Nat.lt_of_lt_of_le (Heap.lt_size ho) I.ok.above) (by rw [z]; exact Nat.lt_irrefl _)
  refine kB b (k.imp id fun k => ?_) fun z => (List.mem_cons.mp (I.stkSub b z)).elim nL n
  obtain ⟨o, ho⟩ := Option.isSome_iff_exists.mp k
  obtain ⟨o', e1⟩ := I.base.there b o ho (by rw [L.ex]; simp)
  rw [e1]; rfl
theorem LeavesF.raises (L : LeavesF X E) {pins : List (Addr × Obj)} {σ : St} {H : Hp} {s : Shared} {h' : Heap} {e : Addr} {cls : Value} {vs : List Value} (I : Inv X pins σ H s) (hx : Heap.MadeExcOf s.heap h' e cls vs) (hE : E cls none H) : X.xe (.ref e) { s with heap := h' } := by
  obtain ⟨kB, st, st0, ff⟩ := made_B I hx
  refine L.to _ _ ?_
  generalize PySem.W.hideAll s.heap (frs X.stack) = B at kB st st0 ff
  rw [L.stk] at ff
  refine wpAny_leaves_madeW (base := B) (by rw [I.ok.frames, L.stk]) L.fr st0 ff hx fun h'' t fl _ _ up => ?_
  exact L.fin (s' := { s with heap := h' }) I (I.kept (t' := s.toks) hx.keeps) kB st up fl hE
theorem LeavesF.passes (L : LeavesF X E) : Passes (CXF X.prog X.w) X E := by
  intro pins σ H s v s' I hc
  obtain ⟨e, cls, a0, H', B, rfl, os, bare, un, hok, fl, kB, hE⟩ := hc
  have I' := I.flown os bare un hok fl
  refine L.to _ _ ?_
  have fl' := fl
  rw [L.stk] at fl'
  refine wpAny_leaves_onW (by rw [I.ok.frames, L.stk]) L.fr fl' fun h'' fl2 up => ?_
  exact L.fin I I' kB fl.1 up fl2 hE
end
theorem leavesF_cx {P : Program} {w : World} {K : PySem.W.Frag} {mg : Str → Option Value} {base : Heap} {N : List Str} {qual : Str} {scope : Scope} {f : Addr} {cd : Value} {A : Around} {outer : List Env} {s : Shared} {H : Hp} {E : XK} :
    LeavesF (cxOf (CXF P w) P w K mg base N qual scope f cd A outer s H E) E := ⟨rfl, rfl, rfl, fun _ _ h => h⟩

/-! ### raise C(..), C an exception class of the text -/
theorem ownCls_in {K : PySem.W.Frag} {h : Heap} {x : Str} {C : Addr} {bmB : List Value} {newId : String} {mg : Str → Option Value} (X : K.In h) (hm : mg x = some (.ref C)) (q : PySem.W.excIn K C bmB newId = true) : OwnCls x C bmB newId mg h := by
  refine ⟨hm, ?_⟩
  unfold PySem.W.excIn at q
  split at q
  · rename_i dd cd sl ho
    split at q
    · rename_i C' bm k0 k1 k2 k3 n k5 hm hs
      simp only [Bool.and_eq_true, beq_iff_eq, Bool.not_eq_true'] at q
      obtain ⟨⟨⟨⟨⟨rfl, rfl⟩, hdel⟩, ht⟩, hok⟩, hni⟩ := q
      obtain ⟨nm, bs, mro, ns, qn, hd, sn, sub, ab, col, del⟩ := cd
      dsimp only at hm hdel hok hni
      subst hm hdel
      have hsl : sl = #[k0, k1, k2, k3, some (.builtin n), k5] := by
        obtain ⟨l⟩ := sl
        simp only at hs
        rw [hs]
      subst hsl
      exact ⟨bm, ns, nm, qn, bs, hd, sn, sub, ab, col, dd, k0, k1, k2, k3, k5, _, X _ _ ho, .of_isNs (PySem.W.isNs_of_in X hok), PySem.W.nsMap_none_of_in X hok hni, PySem.W.tail_of_in X ht⟩
    · cases q
  · cases q
def tRaise (C : Addr) (E : XK) (t : TA) : TS := fun _ σ H => t σ H fun vs H1 => vs.length ≤ sizeLine ∧ E (.ref C) none H1
theorem ps_raise {X : Cx} {E : XK} {x : Str} {C : Addr} {B newId initId : String} {bmB : List Value} {np cpos pos : Pos} {e₀ : Expr} {es : List Expr} {t : TA} (L : LeavesF X E) (hc : X.calm = true) (hg : Gl X x) (hm : X.mg x = some (.ref C)) (hx : PySem.W.excIn X.K C bmB newId = true)
    (FB : ExcBaseFacts B newId initId bmB) (ha : PA X (e₀ :: es) t) (he : starEach (e₀ :: es) X.env = (false, eval e₀ X.env) :: starEach es X.env := by rfl) (hplain : (backTo cpos (starEach es X.env)).any (·.1) = false := by rfl)
    (hd : (x == ("__debug__" : Str)) = false := by decide) : PS X (.Raise (some (.Call (.Name x np) (e₀ :: es) [] cpos)) none pos) (tRaise C E t) := by
  intro pins s σ H D I hw
  have O : OwnCls x C bmB newId X.mg X.base := ownCls_in I.ok.mod.kin hm hx
  obtain ⟨tl, N, nm, q, bs, hdct, sn, sub, ab, col, dd, k0, k1, k2, k3, k5, mN, hC, hN, hni, T⟩ := O.obj
  refine wpAny_Raise_call_subT (C := C) (nm := nm) (q := q) (N := N) (bs := bs) (bm := tl) (hdct := hdct) (sn := sn) (sub := sub) (ab := ab) (col := col) (dd := dd) (k0 := k0) (k1 := k1) (k2 := k2) (k3 := k3) (k5 := k5)
    FB (mN := mN) (T.hasType FB.hasBase) (I.ok.hd hc) (by rw [he]; show (false || (backTo cpos (starEach es X.env)).any (·.1)) = false; rw [hplain]; rfl) hni (ld_glob I hg hm ⟨rfl, ?_⟩ hd)
  have h := ha cpos pins s σ H _ I hw
  rw [he] at h ⊢
  refine Calls.evalArgs_plain (wpAny_mono h (fun vs s₂ h₂ => ?_) fun _ _ y => y)
  obtain ⟨ws, H2, I2, r2, z, hE⟩ := h₂
  have k2' : ∀ b o, X.base.get? b = some o → s₂.heap.get? b = some o := I2.bk
  exact ⟨rfl, by rw [← r2.length]; exact z, k2' _ _ hC, hN.keeps k2', T.keeps k2', fun h' e hx => L.raises I2 hx hE⟩

/-! ### a def whose exceptions may leave it -/
theorem Fun.okX {P : Program} {w : World} {K : PySem.W.Frag} {mg : Str → Option Value} {base : Heap} {x qual : Str} {st : Stmt} {f : Addr} {fd : FuncData} {N ps : List Str} {k : Nat} {sp : Sp} (F : Fun K x qual st f fd) (S : FnScope N ps (defScope st)) (len : ∀ vs H Q E, sp vs H Q E → vs.length = ps.length)
    (hbody : ∀ (cdv : Value) (A : Around) (outer : List Env) (s : Shared) (H : Hp) (vs : List V) (Q : VK) (E : XK), Room k (A.deeper (envOfC qual (defScope st) s.heap.objs.size f cdv)) → sp vs H Q E →
      ∃ t, PSs (cxOf (CXF P w) P w K mg base N qual (defScope st) f cdv A outer s H E) (defBody st) t ∧ t { nx := fun _ H' => Q .non H', rt := Q } (start N vs) H) : FnOk P w K mg base (CXF P w) (k + 1) f fd ps sp := by
  obtain ⟨oc, od, kV, doc, pm, an, cdv, ct, osl, rfl, lk, hcd⟩ := F.ex
  exact fn_of lk hcd S len fun A outer s H vs Q E hr hsp => hbody cdv A outer s H vs Q E hr hsp
/-- a def that never raises, seen so -/
theorem FnOk.toF {P : Program} {w : World} {K : PySem.W.Frag} {mg : Str → Option Value} {base : Heap} {k : Nat} {f : Addr} {fd : FuncData} {ps : List Str} {sp : Sp} {CX : CXT} (G : FnOk P w K mg base CX0 k f fd ps sp) : FnOk P w K mg base CX k f fd ps sp :=
  ⟨G.len, fun A outer s H args us vs Q E hr e0 hb hv hs => codeAny_mono (G.run A outer s H args us vs Q E hr e0 hb hv hs) fun r s' hq => by
    cases r with
    | error e => exact False.elim hq
    | ok fl => cases fl <;> exact hq⟩
end L2

set_option maxHeartbeats 4000000
namespace L2
section
open PySem PySem.W PySem.Spec PySem.Calls PyProof.Rows Builtin Builtin.ObjectAttr Builtin.Getset_descriptor
variable {prog : Program} {w : World} {A : Around} {E : Value → Shared → Prop} {h : Heap} {g : Array GenState} {d : Drawn} {t : Nat} {os : OsState} {a C : Addr} {o : Obj} {K : Frag}
theorem exc_type (hx : h.get? a = some o) (hc : o.cls = .ref C) : Looks (model prog w) h (typeOf (.ref a)) (.ref C) := fun A Q E s k q => by
  show wpAny _ _ (loadPart a _ >>= _) _ _ _
  exact wpAny_bind (wpAny_loadPart (k _ _ hx) (by first | exact wpAny_pure (by rw [hc]; exact q) | (rw [hc]; exact wpAny_pure q)))
theorem exc_class_get {R : Result → Shared → Prop} {tp : Value} (X : K.In h) (hx : h.get? a = some o) (hc : o.cls = .ref C) (hm : mroIn K C (.type "object") = some true)
    (hq : R (.ok (.ret (.ref C))) ⟨h, g, d, t, os⟩) : codeAny (model prog w) A (.call (.builtin "getset_descriptor.__get__") ⟨[.builtin "object.__class__", .ref a, tp], []⟩) R ⟨h, g, d, t, os⟩ := by
  have L0 := exc_type (prog := prog) (w := w) hx hc
  have L1 := looks_mroIn (M := model prog w) X hm
  refine codeAny_call_builtin KF.slot_gs.plain KF.entry_gs (KF.slot_gs.check _ _ _ _ _ _ _ _ KF.type_class (KF.args_gs _ _ _) ?_)
  unfold Builtin.«getset_descriptor.__get__» descrGet
  rw [dga_obj]
  refine wpAny_bind (wpAny_pure ?_)
  unfold descrGetter descrCheckInstance descrNameAndClass isInstance
  simp only [KF.owner_class]
  repeat lk
  refine ⟨Code.quiet_builtin _ (by decide +kernel), codeAny_builtin KF.entry_class ?_⟩
  unfold Builtin.«object.__class__» shownTypeOf
  repeat lk
  exact hq
theorem exc_class_entry {tk : Tok} {Q : Fin → Shared → Prop} (X : K.In h) (hx : h.get? a = some o) (hc : o.cls = .ref C) (hm : mroIn K C (.type "object") = some true)
    (ha : findIn K (.ref C) "__class__" = some (some (.builtin "object.__class__"))) (hq : Q (.done (.ret (.ref C))) ⟨h, g, d, t, os⟩) :
    wpAny (model prog w) A (Builtin.«object.__getattribute__» ⟨[.ref a, .str "__class__" tk], []⟩) Q E ⟨h, g, d, t, os⟩ := by
  have L0 := exc_type (prog := prog) (w := w) hx hc
  have L1 := looks_findIn (M := model prog w) X ha
  have f5 := KF.type_class
  have f6 := F.slot_gs_get.lookup
  have f7 := F.slot_gs_set.lookup
  repeat (any_goals (first | assumption | with_reducible refine Looks.at L0 ?_ | with_reducible refine Looks.at L1 ?_ | wp_step))
  refine exc_class_get X hx hc hm ?_
  repeat (any_goals (first | assumption | wp_step))
theorem exc_check_ga {M : Model} {nameV : Value} {Q : Unit → Shared → Prop} (X : K.In h) (hx : h.get? a = some o) (hc : o.cls = .ref C) (hb : mroIn K C (.type "BaseException") = some true) (hq : Q () ⟨h, g, d, t, os⟩) :
    wpAny (model prog w) A (checkBuiltinCall "BaseException.__getattribute__" ⟨[.ref a, nameV], []⟩) Q E ⟨h, g, d, t, os⟩ := by
  have hk : builtinKind "BaseException.__getattribute__" = some .slot := by decide +kernel
  have hsplit : splitId "BaseException.__getattribute__" = some ("BaseException", "__getattribute__") := by decide +kernel
  have ha := F.args_bexc_ga (.ref a) nameV
  have L0 := exc_type (prog := prog) (w := w) hx hc
  have L1 := looks_mroIn (M := model prog w) X hb
  simp only [checkBuiltinCall, hk, hsplit]
  refine wpAny_bind ?_
  · unfold isInstance
    repeat (first | with_reducible refine Looks.at L0 ?_ | with_reducible refine Looks.at L1 ?_ | wp_step)
    exact hq
theorem exc_class_by {tk : Tok} {Q : Value → Shared → Prop} (X : K.In h) (hx : h.get? a = some o) (hc : o.cls = .ref C) (hm : mroIn K C (.type "object") = some true) (hb : mroIn K C (.type "BaseException") = some true)
    (ha : findIn K (.ref C) "__class__" = some (some (.builtin "object.__class__"))) (hga : findIn K (.ref C) "__getattribute__" = some (some (.builtin "BaseException.__getattribute__"))) (hgt : findIn K (.ref C) "__getattr__" = some none)
    (hq : Q (.ref C) ⟨h, g, d, t, os⟩) : wpAny (model prog w) A (getAttrBy (.ref a) (.str "__class__" tk) false false) Q E ⟨h, g, d, t, os⟩ := by
  have f3 := F.attrBase_ValueError.ga.bind (.ref a)
  have L0 := exc_type (prog := prog) (w := w) hx hc
  have L1 := looks_findIn (M := model prog w) X hga
  have L2 := looks_findIn (M := model prog w) X hgt
  have hx0 : (false && onTheHeap (Value.builtin "BaseException.__getattribute__")) = false := rfl
  have hx2 : (Value.builtin "BaseException.__getattribute__" == Value.builtin "object.__getattribute__") = false := by decide +kernel
  have hx1 : (onTheHeap (Value.ref C) && Value.builtin "BaseException.__getattribute__" == Value.builtin "object.__getattribute__") = false := by rw [hx2]; rfl
  repeat (any_goals (first | assumption | with_reducible refine Looks.at L0 ?_ | with_reducible refine Looks.at L1 ?_ | with_reducible refine Looks.at L2 ?_ | wp_step))
  refine codeAny_call_builtin F.attrBase_ValueError.ga.plain F.entry_bexc_ga (exc_check_ga (M := model prog w) X hx hc hb (exc_class_entry X hx hc hm ha ?_))
  repeat (any_goals (first | assumption | wp_step))
theorem exc_class_attr {Q : Option Value → Shared → Prop} (X : K.In h) (hx : h.get? a = some o) (hc : o.cls = .ref C) (hm : mroIn K C (.type "object") = some true) (hb : mroIn K C (.type "BaseException") = some true)
    (ha : findIn K (.ref C) "__class__" = some (some (.builtin "object.__class__"))) (hga : findIn K (.ref C) "__getattribute__" = some (some (.builtin "BaseException.__getattribute__"))) (hgt : findIn K (.ref C) "__getattr__" = some none)
    (hq : Q (some (.ref C)) ⟨h, g, d, t + 1, os⟩) : wpAny (model prog w) A (getAttr? (.ref a) "__class__") Q E ⟨h, g, d, t, os⟩ := by
  unfold getAttr? getAttrBy?
  refine wpAny_bind (wpAny_mkText (wpAny_bind (wpAny_attempt ?_)))
  exact exc_class_by X hx hc hm hb ha hga hgt (wpAny_pure hq)
end
end L2

set_option maxHeartbeats 4000000
namespace L2
open PySem PySem.Spec PyProof.Rows

/-! ### an exception object that is held -/
def ExcIs (e C : Addr) : Heap → Prop := fun h => ∃ o, h.get? e = some o ∧ o.cls = .ref C
/-- an exception class of the text, as the fragment has it -/
structure ExcK (K : PySem.W.Frag) (C : Addr) : Prop where
  cl : (PySem.W.clsIn K C).isSome = true
  ty : PySem.W.typeIn K (.ref C) = some (.type "type")
  ob : PySem.W.mroIn K C (.type "object") = some true
  be : PySem.W.mroIn K C (.type "BaseException") = some true
  ca : PySem.W.findIn K (.ref C) "__class__" = some (some (.builtin "object.__class__"))
  ga : PySem.W.findIn K (.ref C) "__getattribute__" = some (some (.builtin "BaseException.__getattribute__"))
  gt : PySem.W.findIn K (.ref C) "__getattr__" = some none
theorem kitx_exc {K : PySem.W.Frag} {e C : Addr} (Z : ExcK K C) : PySem.W.KitX K (.ref e) (.ref C) (ExcIs e C) where
  ty := fun M h X p => by
    obtain ⟨o, hx, hc⟩ := p
    exact fun A Q E s k q => by
      show wpAny _ _ (loadPart e _ >>= _) _ _ _
      exact wpAny_bind (wpAny_loadPart (k _ _ hx) (by first | exact wpAny_pure (by rw [hc]; exact q) | (rw [hc]; exact wpAny_pure q)))
  it := fun M h X p => by
    obtain ⟨cd, hcd⟩ := Option.isSome_iff_exists.mp Z.cl
    unfold PySem.W.clsIn at hcd
    split at hcd
    · rename_i c' d' cd' sl' ho
      intro A' Q' E' s' k q
      unfold isType loadHead
      exact wpAny_bind (wpAny_loadPart (k _ _ (X _ _ ho)) (wpAny_pure q))
    · cases hcd
  ne := fun h tp dd its n sl X htp => by
    obtain ⟨cd, hcd⟩ := Option.isSome_iff_exists.mp Z.cl
    refine Bool.eq_false_iff.mpr fun q => ?_
    have e : C = tp := Value.ref.inj (beq_iff_eq.mp q)
    subst e
    unfold PySem.W.clsIn at hcd
    split at hcd
    · rename_i c' d' cd' sl' ho
      have z := (X _ _ ho).symm.trans htp
      cases z
    · cases hcd
  ca := fun {prog w A E Q s} X p k => by
    obtain ⟨o, hx, hc⟩ := p
    obtain ⟨h, g, d, t, os⟩ := s
    exact exc_class_attr X hx hc Z.ob Z.be Z.ca Z.ga Z.gt k
theorem call_isinst_exc {X : Cx} : CallR X (.builtin "isinstance") (fun xs H Q => ∃ e C x c b, xs = [.ref e, x] ∧ H e = some (.ext (ExcIs e C)) ∧ ExcK X.K C ∧ ((∃ n, x = .ty n ∧ c = Value.type n) ∨ ∃ C2, x = .ref C2 ∧ c = Value.ref C2) ∧ PySem.W.kitOne X.K (.ref C) c = some b ∧ Q (.bl b) H) := by
  intro pins s σ H xs us Q I r h
  obtain ⟨e, C, x, c, b, rfl, he, Z, hx, hk, q⟩ := h
  obtain ⟨u, u', rfl, rx, ru⟩ := vals2 r
  cases (show u = Value.ref e from rx)
  have hu : u' = c := by
    rcases hx with ⟨n, rfl, rfl⟩ | ⟨C2, rfl, rfl⟩
    · exact ru
    · exact ru
  subst hu
  obtain ⟨p, _⟩ := (show ObjOk X.prog X.w H s.heap e (.ext (ExcIs e C)) from I.hok e _ he)
  exact PySem.W.kia_one (kitx_exc Z) I.kIn p hk (fun z => nomatch z) fun tk => ⟨.bl b, H, I.tok tk, rfl, q⟩
/-- does the clause's class match -/
theorem excMatches_K {K : PySem.W.Frag} {prog : Program} {w : World} {A : Around} {E : Value → Shared → Prop} {s : Shared} {e C C2 : Addr} {oe : Obj} {b : Bool} {Q : Bool → Shared → Prop} (X : K.In s.heap) (he : s.heap.get? e = some oe) (hc : oe.cls = .ref C)
    (Z : ExcK K C2) (hs : PySem.W.subIn K (.ref C) (.ref C2) = some b) (hq : Q b s) : wpAny (model prog w) A (excMatches (.ref e) (.ref C2)) Q E s := by
  obtain ⟨h, g, d, t, os⟩ := s
  have L0 := PySem.W.looks_typeIn (M := model prog w) X Z.ty
  have L1 := exc_type (prog := prog) (w := w) he hc
  have L2 := PySem.W.looks_subIn (M := model prog w) X hs
  have L3 := PySem.W.looks_mroIn (M := model prog w) X Z.be
  have L4 : PySem.W.Looks (model prog w) h (isType (.ref C2)) true := by
    obtain ⟨cd, hcd⟩ := Option.isSome_iff_exists.mp Z.cl
    unfold PySem.W.clsIn at hcd
    split at hcd
    · rename_i c' d' cd' sl' ho
      intro A' Q' E' s' k q
      unfold isType loadHead
      exact wpAny_bind (wpAny_loadPart (k _ _ (X _ _ ho)) (wpAny_pure q))
    · cases hcd
  have f := tc_notTuple
  unfold excMatches isExcClass isInstance
  repeat (any_goals (first | assumption | with_reducible refine PySem.W.Looks.at L0 ?_ | with_reducible refine PySem.W.Looks.at L1 ?_ | with_reducible refine PySem.W.Looks.at L2 ?_ | with_reducible refine PySem.W.Looks.at L3 ?_ | with_reducible refine PySem.W.Looks.at L4 ?_ | wp_step))
  all_goals (cases b <;> (repeat (any_goals (first | assumption | wp_step))))

/-! ### try -/
/-- the try's body: exceptions go to E', the statement's pins are every state's -/
def cxTry (X : Cx) (E' : Value → Shared → Prop) (pins : List (Addr × Obj)) : Cx := { X with xe := E', pn := X.pn ++ pins }
/-- a clause's suite -/
def cxHand (X : Cx) (e : Addr) : Cx := { X with A := X.A.mark (some (.ref e)), calm := false, xe := fun _ _ => False }
section
variable {X : Cx} {pins pins' : List (Addr × Obj)} {σ : St} {H : Hp} {s : Shared} {E' : Value → Shared → Prop} {e : Addr}
theorem Inv.toTry (I : Inv X pins σ H s) : Inv (cxTry X E' pins) [] σ H s :=
  ⟨⟨I.ok.mod, I.ok.kind, I.ok.glob, I.ok.blt, I.ok.above, I.ok.inj, I.ok.has, I.ok.cab, I.ok.hd, I.ok.frames, I.ok.stk, I.ok.exf, I.ok.bs, I.ok.bsz, I.ok.noex, I.ok.exfs, I.ok.funs, I.ok.frf⟩, I.os, I.bare, I.base, I.loc, I.cell, I.free, I.freeC,
    fun p hp => I.pin p (by rw [List.append_nil] at hp; exact hp), I.hok, I.len⟩
theorem Inv.ofTry (I : Inv (cxTry X E' pins) pins' σ H s) : Inv X pins σ H s :=
  ⟨⟨I.ok.mod, I.ok.kind, I.ok.glob, I.ok.blt, I.ok.above, I.ok.inj, I.ok.has, I.ok.cab, I.ok.hd, I.ok.frames, I.ok.stk, I.ok.exf, I.ok.bs, I.ok.bsz, I.ok.noex, I.ok.exfs, I.ok.funs, I.ok.frf⟩, I.os, I.bare, I.base, I.loc, I.cell, I.free, I.freeC,
    fun p hp => I.pin p (List.mem_append_left _ hp), I.hok, I.len⟩
theorem Inv.toHand (I : Inv X pins σ H s) : Inv (cxHand X e) pins σ H s :=
  ⟨⟨I.ok.mod, I.ok.kind, I.ok.glob, I.ok.blt, I.ok.above, I.ok.inj, I.ok.has, I.ok.cab, fun z => absurd (show false = true from z) Bool.false_ne_true, I.ok.frames, I.ok.stk, I.ok.exf, I.ok.bs, I.ok.bsz, I.ok.noex, I.ok.exfs, I.ok.funs, I.ok.frf⟩, I.os, I.bare, I.base, I.loc, I.cell, I.free, I.freeC,
    I.pin, I.hok, I.len⟩
theorem Inv.ofHand (hd : X.calm = true → X.A.handled = none) (I : Inv (cxHand X e) pins σ H s) : Inv X pins σ H s :=
  ⟨⟨I.ok.mod, I.ok.kind, I.ok.glob, I.ok.blt, I.ok.above, I.ok.inj, I.ok.has, I.ok.cab, hd, I.ok.frames, I.ok.stk, I.ok.exf, I.ok.bs, I.ok.bsz, I.ok.noex, I.ok.exfs, I.ok.funs, I.ok.frf⟩, I.os, I.bare, I.base, I.loc, I.cell, I.free, I.freeC,
    I.pin, I.hok, I.len⟩
end
/-- what a flight leaves as it is, seen from a body -/
def Kept (X : Cx) (pins : List (Addr × Obj)) (H : Hp) (B : Heap) : Prop :=
  ∀ b, (H b ≠ none ∨ ((X.s₀.heap.get? b).isSome = true ∧ b ∉ X.ex) ∨ ∃ p ∈ X.pn ++ pins, p.1 = b) → b ∉ frs X.stack → ∃ o, B.get? b = some o
theorem Kept.of {X : Cx} {pins : List (Addr × Obj)} {σ : St} {H H' : Hp} {s : Shared} {B : Heap} (I : Inv X pins σ H s) (kB : ∀ b, (H' b ≠ none ∨ (s.heap.get? b).isSome = true) → b ∉ frs X.stack → ∃ o, B.get? b = some o) : Kept X pins H' B := by
  intro b k n
  rcases k with k | ⟨k, hx⟩ | ⟨p, hp, rfl⟩
  · exact kB b (.inl k) n
  · obtain ⟨o, ho⟩ := Option.isSome_iff_exists.mp k
    obtain ⟨o', e1⟩ := I.base.there b o ho hx
    exact kB b (.inr (by rw [e1]; rfl)) n
  · exact kB _ (.inr (by rw [(I.pin p hp).1]; rfl)) n
section
variable {X : Cx} {pins : List (Addr × Obj)} {σ : St} {H : Hp} {s : Shared} {B h'' : Heap}
theorem Inv.settled (I' : Inv X pins σ H s) (kB : Kept X pins H B) (st : B.StaysIn s.heap) (st' : B.StaysIn h'') (up : s.heap.UpToSlots h'') : Inv X pins σ H { s with heap := h'' } := by
  have old : ∀ b o, s.heap.get? b = some o → (H b ≠ none ∨ ((X.s₀.heap.get? b).isSome = true ∧ b ∉ X.ex) ∨ ∃ p ∈ X.pn ++ pins, p.1 = b) → b ∉ frs X.stack → h''.get? b = some o := fun b o e k n => by
    obtain ⟨o', e'⟩ := kB b k n
    have := st b o' e'
    rw [e] at this
    cases this
    exact st' b _ e'
  have trk : ∀ b u, H b = some u → ∀ o, s.heap.get? b = some o → h''.get? b = some o := fun b u e o q =>
    old b o q (.inl (by rw [e]; simp)) fun z => by
      have := I'.stkFree b z
      rw [e] at this
      cases this
  have cellK : ∀ x c, X.env.cells.lookup x = some c → ∀ v, s.heap.IsCell c v → h''.IsCell c v := fun x c e v ⟨o, ho, hd⟩ => by
    obtain ⟨sl, q⟩ := up c o ho (fun vs z => by rw [hd] at z; cases z)
    exact ⟨_, q, hd⟩
  have neL : ∀ b o, X.s₀.heap.get? b = some o → b ≠ X.env.locals := fun b o e => Nat.ne_of_lt (Nat.lt_of_lt_of_le (Heap.lt_size e) I'.ok.above)
  refine ⟨I'.ok, I'.os, I'.bare, ⟨fun b o e n hb hx => ?_, fun b o e n hb hx => ?_, I'.base.free, fun b o e hx => ?_, I'.base.tups, I'.base.frzs, I'.base.tbls⟩, ?_, fun x c e => ?_, I'.free, I'.freeC, fun p hp => ?_, fun b u e => ?_, I'.len⟩
  · exact old b o (I'.base.keep b o e n hb hx) (.inr (.inl ⟨by rw [e]; rfl, hx⟩)) fun z => (List.mem_cons.mp (I'.stkSub b z)).elim (neL b o e) hb
  · obtain ⟨sl, e1⟩ := I'.base.slot b o e n hb hx
    obtain ⟨_, o2, ho2, hd2⟩ := I'.funs.mem hb
    rw [e1] at ho2
    cases ho2
    obtain ⟨sl', e2⟩ := up b _ e1 hd2
    exact ⟨sl', e2⟩
  · obtain ⟨o', e1⟩ := I'.base.there b o e hx
    by_cases hb : b ∈ X.fs
    · obtain ⟨_, o2, ho2, hd2⟩ := I'.funs.mem hb
      obtain ⟨sl', e3⟩ := up b o2 ho2 hd2
      exact ⟨_, e3⟩
    · exact ⟨o', old b o' e1 (.inr (.inl ⟨by rw [e]; rfl, hx⟩)) fun z => (List.mem_cons.mp (I'.stkSub b z)).elim (neL b o e) hb⟩
  · obtain ⟨m, hn, hl⟩ := I'.loc
    refine ⟨m, up.ns hn, fun i x v e1 e2 e3 => ?_⟩
    obtain ⟨u, r, l⟩ := hl i x v e1 e2 e3
    refine ⟨u, r, ?_⟩
    rcases l with l | ⟨k, c, e, z⟩
    · exact .inl l
    · exact .inr ⟨k, c, e, cellK x c e _ z⟩
  · obtain ⟨v, z⟩ := I'.cell x c e
    exact ⟨v, cellK x c e v z⟩
  · obtain ⟨e, n, ne, nf, d⟩ := I'.pin p hp
    exact ⟨old p.1 p.2 e (.inr (.inr ⟨p, hp, rfl⟩)) fun z => (List.mem_cons.mp (I'.stkSub p.1 z)).elim ne nf, n, ne, nf, d⟩
  · exact (I'.hok b u e).stay (fun c v hc q => by
      rcases hc with z | z
      · subst z
        exact trk c u e v q
      · exact trk c _ z v q) (fun _ q => q) fun _ _ q => q
/-- the exception is tracked -/
theorem Inv.track {e C : Addr} {a0 : Value} (I : Inv X pins σ H s) (kB : Kept X pins H B) (fl : Heap.FlyingW B X.stack e (.ref C) a0 s.heap) : H e = none ∧ Inv X pins σ (upd H e (.ext (ExcIs e C))) s := by
  obtain ⟨oe, vs, hoe, hoc, hod, _⟩ := fl.first
  have nB : B.get? e = none := fl.2.1
  have nfr : e ∉ frs X.stack := fun z => by
    obtain ⟨_, o2, ho2, hd2⟩ := I.stack.mem z
    rw [hoe] at ho2
    cases ho2
    exact hd2 vs hod
  have nk : ¬ (H e ≠ none ∨ ((X.s₀.heap.get? e).isSome = true ∧ e ∉ X.ex) ∨ ∃ p ∈ X.pn ++ pins, p.1 = e) := fun z => by
    obtain ⟨o, ho⟩ := kB e z nfr
    rw [nB] at ho
    cases ho
  have hn : H e = none := by
    cases q : H e with
    | none => rfl
    | some u => exact absurd (.inl (by rw [q]; simp)) nk
  have nL : X.env.locals ≠ e := fun z => by
    obtain ⟨m, ⟨o, es, ep, ho, hd, _⟩, _⟩ := I.loc
    rw [z, hoe] at ho
    cases ho
    rw [hod] at hd
    cases hd
  have nC : ∀ x c, X.env.cells.lookup x = some c → c ≠ e := fun x c ec z => by
    obtain ⟨v, o, ho, hd⟩ := I.cell x c ec
    rw [z, hoe] at ho
    cases ho
    rw [hod] at hd
    cases hd
  refine ⟨hn, I.ok, I.os, I.bare, ⟨I.base.keep, I.base.slot, fun b o eb n hx => ?_, I.base.there, fun b xs q => ?_, fun b o u q => ?_, fun b ps q => ?_⟩, I.loc, I.cell, ?_, fun x c ec => ?_, fun p hp => ?_, fun b u eb => ?_, I.len⟩
  · have ne : b ≠ e := fun z => nk (.inr (.inl (by rw [← z]; exact ⟨by rw [eb]; rfl, hx⟩)))
    rw [upd_ne ne]
    exact I.base.free b o eb n hx
  · have z := I.base.tups b xs q
    rw [upd_ne (ne_of_none z hn)]
    exact z
  · have z := I.base.frzs b o u q
    rw [upd_ne (ne_of_none z hn)]
    exact z
  · obtain ⟨more, z⟩ := I.base.tbls b ps q
    exact ⟨more, by rw [upd_ne (ne_of_none z hn)]; exact z⟩
  · rw [upd_ne nL]
    exact I.free
  · rw [upd_ne (nC x c ec)]
    exact I.freeC x c ec
  · obtain ⟨e1, n, ne, nf, d⟩ := I.pin p hp
    have np : p.1 ≠ e := fun z => nk (.inr (.inr ⟨p, hp, z⟩))
    exact ⟨e1, by rw [upd_ne np]; exact n, ne, nf, d⟩
  · by_cases hb : b = e
    · subst hb
      rw [upd_same] at eb
      cases eb
      exact ⟨⟨oe, hoe, hoc⟩, ⟨oe, hoe⟩, fun h1 h2 ⟨o, ho, hc⟩ k => ⟨o, k o ho, hc⟩⟩
    · rw [upd_ne hb] at eb
      exact (I.hok b u eb).stay (fun c v _ q => q) (fun c q => by rw [upd_ne (ne_of_none q hn)]; exact q) fun c xs q => by rw [upd_ne (ne_of_none q hn)]; exact q
end
/-- exceptions of a callee, at the names' values σ -/
def PassesAt (CX : CXT) (X : Cx) (σ : St) (E : XK) : Prop := ∀ (pins : List (Addr × Obj)) (H : Hp) (s : Shared) (e : Value) (s' : Shared), Inv X pins σ H s → CX X.stack H s E e s' → X.xe e s'
def tCallX (sp : Sp) (dvs : List V) (EX : St → XK) (t : TA) : TE := fun σ H Q => t σ H fun vs H1 => sp (vs ++ dvs) H1 Q (EX σ)
theorem pe_callX {X : Cx} {CX : CXT} {k : Nat} {f : Addr} {fd : FuncData} {ps : List Str} {sp : Sp} {dvs : List V} {ds : List Value} {EX : St → XK} {x : Str} {p pos : Pos} {e : Expr} {es : List Expr} {t : TA}
    (F : FnOk X.prog X.w X.K X.mg X.base CX k f fd ps sp) (hr : Room k X.A) (hg : Gl X x) (hm : X.mg x = some (.ref f)) (hk : PySem.W.keepIn X.K (.ref f) = true) (hb : Binds X.K fd ps ds) (hd : Vals dvs ds) (hx : ∀ σ, PassesAt CX X σ (EX σ))
    (ha : PA X (e :: es) t) (hdb : (x == ("__debug__" : Str)) = false := by decide) (he : starEach (e :: es) X.env = (false, eval e X.env) :: starEach es X.env := by rfl) (hpl : (backTo pos (starEach es X.env)).any (·.1) = false := by rfl) :
    PE X (.Call (.Name x p) (e :: es) [] pos) (tCallX sp dvs EX t) := by
  intro pins s σ H Q I h
  refine wpAny_Call_Name_kw (ld_glob I hg hm ?_ hdb)
  refine PySem.W.callWith_K (h₀ := X.base) I.ok.mod.kin hk (thn (ha pos pins s σ H _ I h) fun us s1 ⟨vs, H1, I1, r, q⟩ => ⟨I1.kIn, ?_⟩) he hpl
  have r2 : Vals (vs ++ dvs) (us ++ ds) := r.append hd
  have hl : (us ++ ds).length = ps.length := by rw [← r2.length]; exact F.len _ _ _ _ q
  refine wpAny_call (codeAny_mono (F.run X.A X.stack s1 H1 ⟨us, []⟩ (us ++ ds) (vs ++ dvs) Q (EX σ) hr I1.env0 (hb s1 us I1.kIn hl) r2 q) fun r s' hq => ?_)
  cases r with
  | error e => exact hx σ pins H1 s1 e s' I1 hq
  | ok fl =>
    cases fl with
    | ret u => exact I1.after hq
    | next => exact False.elim hq
    | brk => exact False.elim hq
    | cont => exact False.elim hq
/-- the clauses: the names' values, the exception's class, the heap, the wanted ends -/
abbrev TH := St → Value → Hp → Ends → Prop
def PH (X : Cx) (hs : List ExceptHandler) (th : TH) : Prop :=
  ∀ (pins : List (Addr × Obj)) (σ : St) (H : Hp) (s : Shared) (D : Ends) (e : Addr) (cls a0 : Value) (B : Heap), Inv X pins σ H s → Heap.FlyingW B X.stack e cls a0 s.heap → Kept X pins H B → th σ cls H D →
    wpAny (model X.prog X.w) X.A (handleBy (.ref e) X.env hs) (SP X pins D) X.xe s
def hNone : TH := fun _ _ _ _ => False
theorem ph_none {X : Cx} {hs : List ExceptHandler} : PH X hs hNone := fun _ _ _ _ _ _ _ _ _ _ _ _ h => h.elim
def hCls (K : PySem.W.Frag) (C2 : Addr) (ts : TS) (tr : TH) : TH := fun σ cls H D => ∃ C b, cls = .ref C ∧ PySem.W.subIn K (.ref C) (.ref C2) = some b ∧ if b = true then ts D σ H else tr σ cls H D
section
variable {X : Cx} {x : Str} {C2 : Addr} {np pos : Pos} {b₀ : Stmt} {body : List Stmt} {rest : List ExceptHandler} {ts : TS} {tr : TH}
theorem SP.ofHand {pins : List (Addr × Obj)} {D : Ends} {e : Addr} {f : Flow} {s : Shared} (hd : X.calm = true → X.A.handled = none) (h : SP (cxHand X e) pins D f s) : SP X pins D f s := by
  cases f with
  | next => obtain ⟨σ', H', I, q⟩ := h; exact ⟨σ', H', I.ofHand hd, q⟩
  | brk => obtain ⟨σ', H', I, q⟩ := h; exact ⟨σ', H', I.ofHand hd, q⟩
  | cont => obtain ⟨σ', H', I, q⟩ := h; exact ⟨σ', H', I.ofHand hd, q⟩
  | ret u => obtain ⟨v, σ', H', I, r, q⟩ := h; exact ⟨v, σ', H', I.ofHand hd, r, q⟩
/-- except C2: suite -/
theorem ph_cls (hg : Gl X x) (hm : X.mg x = some (.ref C2)) (Z : ExcK X.K C2) (hs : ∀ e, PSs (cxHand X e) (b₀ :: body) ts) (hr : PH X rest tr) (hd : (x == ("__debug__" : Str)) = false := by decide) :
    PH X (.ExceptHandler (some (.Name x np)) none (b₀ :: body) pos :: rest) (hCls X.K C2 ts tr) := by
  intro pins σ H s D e cls a0 B I fl kB hw
  obtain ⟨C, b, rfl, hsub, hw⟩ := hw
  obtain ⟨ob, hob, hobc⟩ := fl.there
  refine wpAny_handleBy_cons (codeAny_handlers_test (ld_glob (X := cxHand X e) I.toHand hg hm ?_ hd)) (by intro q; cases q)
  refine excMatches_K I.kIn hob hobc Z hsub ?_
  cases b with
  | false =>
    rw [if_neg Bool.false_ne_true] at hw
    exact hr pins σ H s D e _ a0 B I fl kB hw
  | true =>
    rw [if_pos rfl] at hw
    refine codeAny_handlers_suite ?_
    refine lands_againW fl fun h₆ fl₆ up₆ => ?_
    have I6 := I.settled kB fl.1 fl₆.1 up₆
    exact wpAny_mono (hs e pins _ σ H D I6.toHand hw) (fun f s2 q => q.ofHand I.ok.hd) fun _ _ f => f.elim
/-- except C2 as n: suite, where the suite always returns -/
def hAs (K : PySem.W.Frag) (C2 : Addr) (i : Nat) (ts : TS) (tr : TH) : TH := fun σ cls H D => ∃ C b, cls = .ref C ∧ PySem.W.subIn K (.ref C) (.ref C2) = some b ∧
  if b = true then ∀ e, H e = none → ts { nx := fun _ _ => False, rt := D.rt } (σ.set i (some (.ref e))) (upd H e (.ext (ExcIs e C))) else tr σ cls H D
theorem ph_as {n : Str} {i : Nat} (hg : Gl X x) (hm : X.mg x = some (.ref C2)) (Z : ExcK X.K C2) (hN : X.N.Nodup) (hi : X.N[i]? = some n) (hx : X.env.scope.names.lookup n = some .local) (hs : ∀ e, PSs (cxHand X e) (b₀ :: body) ts) (hr : PH X rest tr)
    (hd : (x == ("__debug__" : Str)) = false := by decide) : PH X (.ExceptHandler (some (.Name x np)) (some n) (b₀ :: body) pos :: rest) (hAs X.K C2 i ts tr) := by
  intro pins σ H s D e cls a0 B I fl kB hw
  obtain ⟨C, b, rfl, hsub, hw⟩ := hw
  obtain ⟨ob, hob, hobc⟩ := fl.there
  refine wpAny_handleBy_cons (codeAny_handlers_test (ld_glob (X := cxHand X e) I.toHand hg hm ?_ hd)) (by intro q; cases q)
  refine excMatches_K I.kIn hob hobc Z hsub ?_
  cases b with
  | false =>
    rw [if_neg Bool.false_ne_true] at hw
    exact hr pins σ H s D e _ a0 B I fl kB hw
  | true =>
    rw [if_pos rfl] at hw
    refine codeAny_handlers_suite_as ?_
    refine lands_againW fl fun h₆ fl₆ up₆ => ?_
    have I6 := I.settled kB fl.1 fl₆.1 up₆
    obtain ⟨hn, I7⟩ := I6.track kB fl₆
    refine store_ok (X := X) (v := .ref e) I7 hN hi (.inl hx) rfl (fun s' I8 => ?_) (.inr hx)
    refine wpAny_mono (hs e pins s' _ _ _ I8.toHand (hw e hn)) (fun f s2 q => ?_) fun _ _ f => f.elim
    have q := q.ofHand I.ok.hd
    cases f with
    | next => obtain ⟨_, _, _, q⟩ := q; exact q.elim
    | brk => obtain ⟨_, _, _, q⟩ := q; exact False.elim q
    | cont => obtain ⟨_, _, _, q⟩ := q; exact False.elim q
    | ret u =>
      obtain ⟨v, σ', H', I9, r, q⟩ := q
      obtain ⟨m, hnm, _⟩ := I9.loc
      have hcls : (X.env.scope.kind == .class || (X.env.scope.kind == .module && X.env.locals != X.env.globals)) = false := by rw [I.ok.kind]; rfl
      refine wpAny_nameGoes hx hnm hcls fun h' m' hm' sb => ?_
      refine ⟨v, List.replicate X.N.length none, H', ?_, r, q⟩
      have neC : ∀ y c, X.env.cells.lookup y = some c → c ≠ X.env.locals := I9.cne
      refine ⟨I9.ok, I9.os, I9.bare, ⟨fun b o eb n hb hx => ?_, fun b o eb n hb hx => ?_, I9.base.free, fun b o eb hx => ?_, I9.base.tups, I9.base.frzs, I9.base.tbls⟩, ⟨m', hm', fun j y v' e1 e2 e3 => ?_⟩, fun y c ec => ?_, I9.free, I9.freeC, fun p hp => ?_, fun b u eb => ?_, by simp⟩
      · exact (sb.2 b (Nat.ne_of_lt (Nat.lt_of_lt_of_le (Heap.lt_size eb) I.ok.above))).trans (I9.base.keep b o eb n hb hx)
      · obtain ⟨sl, e1⟩ := I9.base.slot b o eb n hb hx
        exact ⟨sl, (sb.2 b (Nat.ne_of_lt (Nat.lt_of_lt_of_le (Heap.lt_size eb) I.ok.above))).trans e1⟩
      · obtain ⟨o', e1⟩ := I9.base.there b o eb hx
        exact ⟨o', (sb.2 b (Nat.ne_of_lt (Nat.lt_of_lt_of_le (Heap.lt_size eb) I.ok.above))).trans e1⟩
      · rw [List.getElem?_replicate] at e2
        split at e2 <;> cases e2
      · obtain ⟨w', z⟩ := I9.cell y c ec
        exact ⟨w', z.sameBut sb (neC y c ec)⟩
      · obtain ⟨e1, n1, ne, nf, d⟩ := I9.pin p hp
        exact ⟨(sb.2 p.1 ne).trans e1, n1, ne, nf, d⟩
      · refine (I9.hok b u eb).stay (fun c v' hc q => (sb.2 c ?_).trans q) (fun _ q => q) fun _ _ q => q
        rintro rfl
        rcases hc with rfl | hc
        · rw [I9.free] at eb; cases eb
        · rw [I9.free] at hc; cases hc
end
/-- try: body, clauses -/
def tTry (tb : (St → XK) → TS) (th : TH) : TS := fun D σ H => tb (fun σ' cls _ H' => th σ' cls H' D) D σ H
theorem SP.ofTry {X : Cx} {pins : List (Addr × Obj)} {E' : Value → Shared → Prop} {D : Ends} {f : Flow} {s : Shared} (h : SP (cxTry X E' pins) [] D f s) : SP X pins D f s := by
  cases f with
  | next => obtain ⟨σ', H', I, q⟩ := h; exact ⟨σ', H', I.ofTry, q⟩
  | brk => obtain ⟨σ', H', I, q⟩ := h; exact ⟨σ', H', I.ofTry, q⟩
  | cont => obtain ⟨σ', H', I, q⟩ := h; exact ⟨σ', H', I.ofTry, q⟩
  | ret u => obtain ⟨v, σ', H', I, r, q⟩ := h; exact ⟨v, σ', H', I.ofTry, r, q⟩
theorem ps_try {X : Cx} {body : List Stmt} {h₀ : ExceptHandler} {hs : List ExceptHandler} {pos : Pos} {tb : (St → XK) → TS} {th : TH} (stk : X.stack = X.env :: X.outer) (fr : X.env.frame = some X.env.locals)
    (hb : ∀ (E' : Value → Shared → Prop) (pins : List (Addr × Obj)) (EX : St → XK), (∀ σ, PassesAt (CXF X.prog X.w) (cxTry X E' pins) σ (EX σ)) → PSs (cxTry X E' pins) body (tb EX)) (hh : PH X (h₀ :: hs) th) :
    PS X (.Try body (h₀ :: hs) [] [] pos) (tTry tb th) := by
  intro pins s σ H D I hw
  refine wpAny_Try_except (wpAny_mono (hb (fun e s₁ => wpAny (model X.prog X.w) X.A (noteFrame e X.env) (fun _ s₂ => wpAny (model X.prog X.w) X.A (setFlight e none) (fun _ s₃ => wpAny (model X.prog X.w) X.A (handleBy e X.env (h₀ :: hs)) (SP X pins D) X.xe s₃) X.xe s₂) X.xe s₁) pins
    (fun σ' cls _ H' => th σ' cls H' D) ?_ [] s σ H D I.toTry hw) (fun f s₁ q => ?_) fun _ _ q => q)
  · intro σ' pins' H1 s1 v s' I1 hc
    obtain ⟨e, cls, a0, H', B, rfl, os, bare, un, hok, fl, kB, hE⟩ := hc
    have I1 : Inv X pins σ' H1 s1 := I1.ofTry
    have I2 : Inv X pins σ' H' s' := I1.flown os bare un hok fl
    have kB : Kept X pins H' B := Kept.of I1 kB
    have fl : Heap.FlyingW B X.stack e cls a0 s'.heap := fl
    have fl' := fl
    rw [stk] at fl'
    refine wpAny_looks_onW (by rw [I.ok.frames, stk]) fr fl' fun h₄ held₄ up₄ => ?_
    refine wpAny_landsW held₄ fun h₅ fl₅ up₅ => ?_
    have I3 := I2.settled kB fl.1 fl₅.1 (up₄.trans up₅)
    rw [← stk] at fl₅
    exact hh pins σ' H' _ D e cls a0 B I3 fl₅ kB hE
  · have q := q.ofTry
    cases f with
    | next => exact wpAny_execs_nil q
    | brk => exact q
    | cont => exact q
    | ret u => exact q
end L2

set_option maxHeartbeats 4000000
namespace L2
open PySem PySem.Spec PyProof.Rows

/-! ### f'{e!r} ..' : some text -/
def tFsR (n : Nat) (te : TE) : TE := fun σ H Q => te σ H fun x H1 => ∃ z : Str, x = .str z ∧ (reprText z).length + n ≤ sizeLine ∧ ∀ o : Str, Q (.str o) H1
theorem pe_fsR {X : Cx} {e : Expr} {te : TE} {y : Str} {k : Nat} {p1 p2 pos : Pos} (he : PE X e te) : PE X (.JoinedStr [.FormattedValue e 114 none p1, .Constant (.str y) k p2] pos) (tFsR y.length te) := by
  intro pins s σ H Q I h
  refine wpAny_JoinedStr ?_
  show Joins _ _ _ [eval (.FormattedValue e 114 none p1) X.env, eval (.Constant (.str y) k p2) X.env] _ _ _
  refine wpAny_FormattedValue_repr (thn (he pins s σ H _ I h) fun u s1 ⟨x, H1, I1, r1, q1⟩ => ?_)
  obtain ⟨z, rfl, hz, q⟩ := q1
  obtain ⟨t, rfl⟩ := r1
  have hz1 : (reprText z).length ≤ sizeLine := by omega
  refine pyReprObj_str ?_ hz1
  have e0 : (Str.empty ++ reprText z).length = (reprText z).length := by rw [strLen_append]; exact Nat.zero_add _
  have e1 : (Str.empty ++ reprText z ++ y).length = (reprText z).length + y.length := by rw [strLen_append, e0]
  have fin : ∀ (s' : Shared) (t' : Tok), Inv X pins σ H1 s' → ∃ (y' : Str) (t : Tok), Value.str (reprText z) t' = .str y' t ∧ (Str.empty ++ y').length ≤ sizeLine ∧
      Joins (model X.prog X.w) X.A X.xe [eval (.Constant (.str y) k p2) X.env] (Str.empty ++ y') (fun out s₁ => out.length ≤ sizeLine ∧ EP X pins σ Q (.str out s₁.toks) { s₁ with toks := s₁.toks + 1 }) s' := by
    intro s' t' I'
    refine ⟨_, _, rfl, by rw [e0]; exact hz1, ?_⟩
    refine Calls.Constant_str ⟨_, _, rfl, by rw [e1]; exact hz, ?_⟩
    exact ⟨by rw [e1]; exact hz, .str _, H1, (I'.tok _).tok _, ⟨_, rfl⟩, q _⟩
  exact wpAny_formatField_str (fin _ _ (I1.tok _)) (fin _ _ ((I1.tok _).tok _)) hz1

/-! ### slices of texts -/

def rSlS : V → Option Int → Option Int → Hp → VK → Prop := fun x lo hi H Q => ∃ z : Str, x = .str z ∧ z.length ≤ sizeLine ∧ Q (.str (Txt.slice z lo hi)) H
theorem sl_str {X : Cx} : SlR X rSlS := by
  intro pins s σ H x v vl vu lo hi sl Q I rx hs pl pu h
  obtain ⟨z, rfl, hz, q⟩ := h
  obtain ⟨t, rfl⟩ := rx
  obtain ⟨o, ho, hc, hd⟩ := hs
  refine ⟨"str", _, F.slot_str_getitem.lookup, typeIs_str _ _ _, ?_⟩
  have fin : ∀ (t' : Tok) (k : Nat), EP X pins σ Q (.str (Txt.slice z lo hi) t') { s with toks := k } := fun t' k => ⟨.str _, H, I.tok _, ⟨_, rfl⟩, q⟩
  cases pl with
  | none => cases pu with
    | none => exact wpAny_getItem_str_slice (l := none) (u := none) (st := none) ⟨o, ho, hc, hd⟩ rfl (post_val_or_str ⟨Nat.le_trans (Txt.slice_le z _ _) hz, fin⟩)
    | int j tj => exact wpAny_getItem_str_slice (l := none) (u := some (j, tj)) (st := none) ⟨o, ho, hc, hd⟩ rfl (post_val_or_str ⟨Nat.le_trans (Txt.slice_le z _ _) hz, fin⟩)
  | int i ti => cases pu with
    | none => exact wpAny_getItem_str_slice (l := some (i, ti)) (u := none) (st := none) ⟨o, ho, hc, hd⟩ rfl (post_val_or_str ⟨Nat.le_trans (Txt.slice_le z _ _) hz, fin⟩)
    | int j tj => exact wpAny_getItem_str_slice (l := some (i, ti)) (u := some (j, tj)) (st := none) ⟨o, ho, hc, hd⟩ rfl (post_val_or_str ⟨Nat.le_trans (Txt.slice_le z _ _) hz, fin⟩)
theorem slice_to (z : Str) (n : Nat) (h : n ≤ z.length) : Txt.slice z none (some (n : Int)) = ⟨(z.cps.toList.take n).toArray⟩ := by
  have e : Builtin.Str.strSliceIndices none (some (n : Int)) 1 z.length = Builtin.Str.strSliceIndices (some ((0 : Nat) : Int)) (some (n : Int)) 1 z.length := by
    have m : max (0 : Int) (min 0 (z.length : Int)) = 0 := by omega
    simp [Builtin.Str.strSliceIndices, m]
  have e2 := PySem.StrLaws.sliced_plain z (Nat.zero_le n) h
  unfold Txt.slice
  rw [e, e2]
  split
  · rename_i c
    have : n = z.length := by
      rw [PySem.StrLaws.strSliceIndices_plain (Nat.zero_le n) h] at c
      simpa using c
    refine Str.ext' ?_
    rw [this]
    have : z.cps.toList.length = z.length := by simp [Str.length]
    rw [← this, List.take_length]
  · rfl
theorem slice_from (z : Str) (n : Nat) (h : n ≤ z.length) : Txt.slice z (some (n : Int)) none = ⟨(z.cps.toList.drop n).toArray⟩ := by
  have e : Builtin.Str.strSliceIndices (some (n : Int)) none 1 z.length = Builtin.Str.strSliceIndices (some (n : Int)) (some (z.length : Int)) 1 z.length := by
    have m : max (0 : Int) (min (z.length : Int) (z.length : Int)) = z.length := by omega
    have m2 : ¬ ((z.length : Int) < 0) := by omega
    simp [Builtin.Str.strSliceIndices, m2]
  have e2 := PySem.StrLaws.sliced_plain z h (Nat.le_refl _)
  have hl : z.cps.toList.length = z.length := by simp [Str.length]
  unfold Txt.slice
  rw [e, e2]
  split
  · rename_i c
    have : n = 0 := by
      rw [PySem.StrLaws.strSliceIndices_plain h (Nat.le_refl _)] at c
      have c' : z.length - n = z.length := by simpa using c
      omega
    refine Str.ext' ?_
    rw [this]
    simp
  · rw [List.take_of_length_le (by rw [List.length_drop, hl]; omega)]
/-! ### what holds behind a statement, told once for all its ways -/
def tCut (I : St → Hp → Prop) (t : TS) : TS := fun D σ H => t { D with nx := I } σ H ∧ ∀ σ' H', I σ' H' → D.nx σ' H'
theorem ps_cut {X : Cx} {st : Stmt} {t : TS} (I : St → Hp → Prop) (h : PS X st t) : PS X st (tCut I t) := by
  intro pins s σ H D V hw
  refine wpAny_mono (h pins s σ H _ V hw.1) (fun f s' q => ?_) fun _ _ z => z
  cases f with
  | next => obtain ⟨σ', H', V', q⟩ := q; exact ⟨σ', H', V', hw.2 _ _ q⟩
  | brk => exact q
  | cont => exact q
  | ret u => exact q
end L2

namespace Hs
/-! ### walks as codes -/
def stpC (hs : List Rm) (i : Nat) (c : Nat) : Option Nat := if c = 108 then some (stp hs i false) else if c = 114 then some (stp hs i true) else none
def ledC (hs : List Rm) : Nat → List Nat → Option Nat
  | i, [] => some i
  | i, c :: cs => (stpC hs i c).bind fun j => ledC hs j cs
theorem ledC_append (hs : List Rm) : ∀ (xs ys : List Nat) (i : Nat), ledC hs i (xs ++ ys) = (ledC hs i xs).bind fun j => ledC hs j ys
  | [], ys, i => rfl
  | c :: xs, ys, i => by
    show (stpC hs i c).bind (fun j => ledC hs j (xs ++ ys)) = ((stpC hs i c).bind fun j => ledC hs j xs).bind _
    cases stpC hs i c with
    | none => rfl
    | some j => exact ledC_append hs xs ys j
theorem ledC_snoc (hs : List Rm) (xs : List Nat) (c i : Nat) : ledC hs i (xs ++ [c]) = (ledC hs i xs).bind fun j => stpC hs j c := by
  rw [ledC_append]
  congr
  funext j
  show (stpC hs j c).bind some = _
  cases stpC hs j c <;> rfl
theorem ledC_take_none {hs : List Rm} {cs : List Nat} {i n : Nat} (h : ledC hs i (cs.take n) = none) : ledC hs i cs = none := by
  rw [← List.take_append_drop n cs, ledC_append, h]
  rfl
theorem stpC_lt {hs : List Rm} (h : Wf hs) {i j c : Nat} (hi : i < hs.length) (e : stpC hs i c = some j) : j < hs.length := by
  unfold stpC at e
  split at e
  · cases e; exact h.stp hi false
  · split at e
    · cases e; exact h.stp hi true
    · cases e
theorem ledC_lt {hs : List Rm} (h : Wf hs) : ∀ {cs : List Nat} {i j : Nat}, i < hs.length → ledC hs i cs = some j → j < hs.length
  | [], i, j, hi, e => by cases e; exact hi
  | c :: cs, i, j, hi, e => by
    have e' : (stpC hs i c).bind (fun j => ledC hs j cs) = some j := e
    cases q : stpC hs i c with
    | none => rw [q] at e'; cases e'
    | some m => rw [q] at e'; exact ledC_lt h (stpC_lt h hi q) e'
/-- a sign that is no turn -/
theorem ledC_bad (hs : List Rm) {c : Nat} (h1 : c ≠ 108) (h2 : c ≠ 114) (xs ys : List Nat) (i : Nat) : ledC hs i (xs ++ c :: ys) = none := by
  rw [ledC_append]
  cases ledC hs i xs with
  | none => rfl
  | some j =>
    show (stpC hs j c).bind _ = none
    unfold stpC
    rw [if_neg h1, if_neg h2]
    rfl
def sg (b : Bool) : Nat := if b then 114 else 108
theorem ledC_sg (hs : List Rm) : ∀ (w : List Bool) (i : Nat), ledC hs i (w.map sg) = some (led hs i w)
  | [], i => rfl
  | b :: w, i => by
    have e : stpC hs i (sg b) = some (stp hs i b) := by cases b <;> rfl
    show (stpC hs i (sg b)).bind (fun j => ledC hs j (w.map sg)) = some (led hs (stp hs i b) w)
    rw [e]
    exact ledC_sg hs w _
/-! ### the house with its rooms numbered from k on -/
def shR (n k : Nat) (r : Rm) : Rm := ⟨(((r.l : Int) - k) % n).toNat, (((r.r : Int) - k) % n).toNat, r.lit⟩
def shifted (hs : List Rm) (k : Nat) : List Rm := (hs.drop k ++ hs.take k).map (shR hs.length k)
theorem shifted_length (hs : List Rm) (k : Nat) : (shifted hs k).length = hs.length := by
  unfold shifted
  rw [List.length_map, List.length_append, List.length_drop, List.length_take]
  omega
/-- where room i has gone -/
def to (n k i : Nat) : Nat := (((i : Int) - k) % n).toNat
theorem to_lt {n k i : Nat} (hn : 0 < n) : to n k i < n := by
  unfold to
  have h0 : (n : Int) ≠ 0 := by omega
  have h1 := Int.emod_nonneg ((i : Int) - k) h0
  have h2 := Int.emod_lt_of_pos ((i : Int) - k) (show (0 : Int) < n by omega)
  omega
theorem to_eq {n k i : Nat} (hk : k < n) (hi : i < n) : to n k i = if k ≤ i then i - k else n - k + i := by
  unfold to
  split
  · rename_i h
    rw [Int.emod_eq_of_lt (by omega) (by omega)]
    omega
  · rename_i h
    rw [← Int.add_emod_right, Int.emod_eq_of_lt (by omega) (by omega)]
    omega
theorem shifted_get {hs : List Rm} {k i : Nat} {r : Rm} (hk : k < hs.length) (h : hs[i]? = some r) : (shifted hs k)[to hs.length k i]? = some (shR hs.length k r) := by
  have hi : i < hs.length := (List.getElem?_eq_some_iff.mp h).1
  rw [to_eq hk hi]
  unfold shifted
  rw [List.getElem?_map]
  split
  · rename_i c
    rw [List.getElem?_append_left (by rw [List.length_drop]; omega), List.getElem?_drop, show k + (i - k) = i by omega, h]
    rfl
  · rename_i c
    rw [List.getElem?_append_right (by rw [List.length_drop]; omega), List.length_drop, show hs.length - k + i - (hs.length - k) = i by omega, List.getElem?_take_of_lt (by omega), h]
    rfl
theorem shifted_wf {hs : List Rm} (h : Wf hs) (k : Nat) : Wf (shifted hs k) := by
  refine ⟨by rw [shifted_length]; exact h.ne, fun r hr => ?_⟩
  rw [shifted_length]
  unfold shifted at hr
  obtain ⟨q, _, rfl⟩ := List.mem_map.mp hr
  exact ⟨to_lt h.ne, to_lt h.ne⟩
theorem shifted_stp {hs : List Rm} (h : Wf hs) {k i : Nat} (hk : k < hs.length) (hi : i < hs.length) (b : Bool) : stp (shifted hs k) (to hs.length k i) b = to hs.length k (stp hs i b) := by
  have e : hs[i]? = some hs[i] := by simp [hi]
  unfold stp
  rw [shifted_get hk e, e]
  cases b <;> rfl
theorem shifted_led {hs : List Rm} (h : Wf hs) {k : Nat} (hk : k < hs.length) : ∀ (w : List Bool) (i : Nat), i < hs.length → led (shifted hs k) (to hs.length k i) w = to hs.length k (led hs i w)
  | [], i, hi => rfl
  | b :: w, i, hi => by
    show led (shifted hs k) (stp (shifted hs k) (to hs.length k i) b) w = to hs.length k (led hs (stp hs i b) w)
    rw [shifted_stp h hk hi]
    exact shifted_led h hk w _ (h.stp hi b)
theorem to_self {n k : Nat} : to n k k = 0 := by unfold to; simp
theorem shifted_lit {hs : List Rm} {k i : Nat} (hk : k < hs.length) (hi : i < hs.length) : litAt (shifted hs k) (to hs.length k i) = litAt hs i := by
  have e : hs[i]? = some hs[i] := by simp [hi]
  unfold litAt
  rw [shifted_get hk e, e]
  rfl
end Hs

set_option maxHeartbeats 4000000
namespace L2
open PySem PySem.Spec PyProof.Rows

/-! ### laws whose defs make functions: the code tables are tracked -/
def BMain (mg : Str → Option Value) (h : Heap) : Prop := ∃ bm ob, mg "__builtins__" = some (.ref bm) ∧ bm ≠ builtinsNs ∧ h.get? bm = some ob ∧ ob.cls = .type "module" ∧ ob.dict = some builtinsNs ∧ ob.data = .plain
theorem law_callT {P : Program} {w : World} {K : PySem.W.Frag} {mg mb : Str → Option Value} {CX : CXT} {k : Nat} {fa a : Addr} {fd : FuncData} {x : Str} {sp : Sp} {s₁ : Shared} {vs : List Value} {ns : List Int} {tabs : List (Addr × Addr)}
    (hT : PySem.W.TabsAt tabs s₁.heap) (hKT : PySem.W.noTabs K = true) (hbm : BMain mg s₁.heap)
    (KX : K.In s₁.heap) (hns : s₁.heap.Ns mainGlobals mg) (hb : s₁.heap.Ns builtinsNs mb) (hbb : ∀ x : Str, x ≠ "__name__" → mb x = bootBuiltins x) (hlim : s₁.heap.NoLimit) (hg : s₁.gens = #[])
    (ha : s₁.heap.get? a = some { cls := .type "list", data := .seq vs.toArray }) (hi : IntsAre vs ns) (hl : ns.length ≤ sizeLine) (hr : Room k callerA)
    (F : ∀ base : Heap, K.In base → base.Ns mainGlobals mg → PySem.W.CodeAll tabs base → BMain mg base → FnOk P w K mg base CX k fa fd [x] sp) (hbind : ∀ (s : Shared) (u : Value), BindsTo s fd ⟨[u], []⟩ [(x, u)])
    (hsp : ∀ H : Hp, SqL K H a (ns.map V.int) → (∀ q ∈ tabs, H q.2 = some (.tbl #[])) → sp [.ref a] H (fun v _ => v = .bl true) fun _ _ _ => False)
    (hCX : ∀ H e s', CX [] H s₁ (fun _ _ _ => False) e s' → False) :
    codeAny (model P w) callerA (.call (.ref fa) ⟨[.ref a], []⟩) (fun r s' => r = .ok (.ret (.bool true)) ∧ OldK s₁.heap s'.heap ∧ s'.os = s₁.os ∧ AllBare s'.gens) s₁ := by
  have rv := vals_ints hi
  have lenV := hi.length
  have core : ∀ H : Hp, (∀ b u, H b = some u → (b = a ∧ ∃ ob xs, u = .frz ob (.lst xs)) ∨ ∃ q ∈ tabs, b = q.2 ∧ u = .tbl #[]) → SqL K H a (ns.map V.int) → (∀ q ∈ tabs, H q.2 = some (.tbl #[])) → HOk P w H s₁.heap → (H a ≠ none → K.lookup a = none) →
      codeAny (model P w) callerA (.call (.ref fa) ⟨[.ref a], []⟩) (fun r s' => r = .ok (.ret (.bool true)) ∧ OldK s₁.heap s'.heap ∧ s'.os = s₁.os ∧ AllBare s'.gens) s₁ := by
    intro H hO hS hTb hok hK
    have base_of : ∀ {b : Addr} {o : Obj}, s₁.heap.get? b = some o → H b = none → (hidT s₁.heap H).get? b = some o := fun e n => hidT_get e n
    -- what is tracked is a list or a table
    have kind : ∀ {b : Addr} {o : Obj} {u : HO}, s₁.heap.get? b = some o → H b = some u → (b = a ∧ ∃ vs n, o.data = .seq vs n) ∨ (∃ q ∈ tabs, b = q.2 ∧ o = PySem.W.tabObj #[]) := fun {b o u} e q => by
      rcases hO b u q with ⟨rfl, _⟩ | ⟨q', hq', rfl, rfl⟩
      · rw [ha] at e; cases e
        exact .inl ⟨rfl, _, _, rfl⟩
      · have := (hT q' hq').2
        rw [e] at this
        exact .inr ⟨q', hq', rfl, Option.some.inj this⟩
    have free : ∀ {b : Addr} {o : Obj}, s₁.heap.get? b = some o → (∀ vs n, o.data ≠ .seq vs n) → o ≠ PySem.W.tabObj #[] → H b = none := fun {b o} e n1 n2 => by
      cases q : H b with
      | none => rfl
      | some u =>
        rcases kind e q with ⟨_, vs, n, z⟩ | ⟨_, _, _, z⟩
        · exact absurd z (n1 vs n)
        · exact absurd z n2
    have noA : ∀ {b : Addr} {o : Obj} {es : Array DictEntry} {ep : Nat}, s₁.heap.get? b = some o → o.data = .dict es ep → H b = none := fun {b o es ep} e d =>
      free e (fun vs n z => by rw [d] at z; cases z) (fun z => by rw [z] at d; cases d)
    have nsK : ∀ {b : Addr} {m : Str → Option Value}, s₁.heap.Ns b m → (hidT s₁.heap H).Ns b m := fun {b m} ⟨o, es, ep, e, d, r⟩ => ⟨o, es, ep, base_of e (noA e d), d, r⟩
    have hKb : K.In (hidT s₁.heap H) := fun b o e => base_of (KX b o e) (by
      cases q : H b with
      | none => rfl
      | some u =>
        rcases kind (KX b o e) q with ⟨rfl, _⟩ | ⟨_, _, _, z⟩
        · rw [hK (by rw [q]; simp)] at e; cases e
        · have h2 := List.all_eq_true.mp hKT (b, o) (PySem.W.mem_of_lookupK e)
          rw [z] at h2
          cases h2)
    have hM : Mod K mg (hidT s₁.heap H) := ⟨hKb, nsK hns, ⟨mb, nsK hb, hbb⟩, let ⟨mc, h1, h2⟩ := hlim; ⟨mc, nsK h1, h2⟩⟩
    have hC : PySem.W.CodeAll tabs (hidT s₁.heap H) := .of fun q hq => by
      obtain ⟨o, ws, file, tf, flags, tg, inF, text, tt, e1, r1, r2, r3⟩ := (hT q hq).1
      exact ⟨o, ws, file, tf, flags, tg, inF, text, tt, base_of e1 (free e1 (fun _ _ z => by rw [r2] at z; cases z) (fun z => by rw [z] at r1; cases r1)), r1, r2, r3⟩
    have hB : BMain mg (hidT s₁.heap H) := by
      obtain ⟨bm, ob, b1, b2, b3, b4, b5, b6⟩ := hbm
      exact ⟨bm, ob, b1, b2, base_of b3 (free b3 (fun _ _ z => by rw [b6] at z; cases z) (fun z => by rw [z] at b4; cases b4)), b4, b5, b6⟩
    have e0 : Env0 P w K mg (hidT s₁.heap H) callerA [] s₁ H := ⟨rfl, hM, fun b o e => of_hidT e, Nat.le_of_eq (hidT_size _ _), trivial, fun b hb => absurd (show b ∈ ([] : List Addr) from hb) (by simp), hok, .of_eq hg⟩
    refine codeAny_mono ((F _ hKb (nsK hns) hC hB).run callerA [] s₁ H ⟨[.ref a], []⟩ [.ref a] [.ref a] _ _ hr e0 (hbind s₁ (.ref a)) (.cons rfl .nil) (hsp H hS hTb)) fun r s' h => ?_
    cases r with
    | error e => exact (hCX H e s' h).elim
    | ok fl =>
      cases fl with
      | next => exact False.elim h
      | brk => exact False.elim h
      | cont => exact False.elim h
      | ret u =>
        obtain ⟨v, H', os, bare, un, hok', r', q⟩ := h
        have q' : v = .bl true := q
        subst q'
        obtain rfl : u = Value.bool true := r'
        have key : ∀ b o, s₁.heap.get? b = some o → s'.heap.get? b = some o ∨ (∃ q ∈ tabs, b = q.2 ∧ o = PySem.W.tabObj #[] ∧ ∃ ps, s'.heap.get? b = some (PySem.W.tabObj ps)) := fun b o e => by
          cases q : H b with
          | none => exact .inl (un.keep b o e q (by intro z; exact absurd (show b ∈ ([] : List Addr) from z) (by simp)) (by simp))
          | some u =>
            rcases hO b u q with ⟨rfl, ob, xs, rfl⟩ | ⟨q', hq', rfl, rfl⟩
            · have z2 := un.frzs b ob _ q
              obtain ⟨e1, _⟩ := hok b _ q
              obtain ⟨e2, _⟩ := hok' b _ z2
              rw [e] at e1; cases e1
              exact .inl e2
            · obtain ⟨more, z2⟩ := un.tbls _ _ q
              have e1 := (hT q' hq').2
              rw [e] at e1
              have e2 : s'.heap.get? q'.2 = some (PySem.W.tabObj (#[] ++ more)) := hok' _ _ z2
              exact .inr ⟨q', hq', rfl, Option.some.inj e1, _, e2⟩
        refine ⟨rfl, ⟨fun b o e => ?_, fun b o e => ?_⟩, os, bare⟩
        · rcases key b o e with z | ⟨q', hq', rfl, rfl, ps, hP⟩
          · exact .inl z
          · exact .inr (.inl ⟨((hT q' hq').1.tab (hT q' hq').2).isCodeTable, rfl, #[], ps, rfl, by rw [Array.empty_append]; exact hP⟩)
        · rcases key b o e with z | ⟨q', hq', rfl, rfl, ps, hP⟩
          · exact ⟨o, z⟩
          · exact ⟨_, hP⟩
  have hTa : ∀ q ∈ tabs, q.2 ≠ a := fun q hq z => by
    have := (hT q hq).2
    rw [z, ha] at this
    cases this
  have hokT : ∀ q ∈ tabs, ObjOk P w (fun _ => none) s₁.heap q.2 (.tbl #[]) := fun q hq => (hT q hq).2
  cases hk : K.lookup a with
  | some o =>
    have e := KX a o hk
    rw [ha] at e
    cases e
    refine core (fun b => if b ∈ tabs.map (·.2) then some (.tbl #[]) else none) (fun b u z => ?_) (.inr ⟨_, vs.toArray, _, hk, rfl, rfl, rfl, by rw [List.size_toArray, lenV]; exact hl, by simpa using rv⟩)
      (fun q hq => if_pos (List.mem_map_of_mem hq)) (fun b u z => ?_) fun z => ?_
    · by_cases hb : b ∈ tabs.map (·.2)
      · obtain ⟨q, hq, e⟩ := List.mem_map.mp hb
        exact .inr ⟨q, hq, e.symm, by have z' := (if_pos hb).symm.trans z; cases z'; rfl⟩
      · have z' := (if_neg hb).symm.trans z
        cases z'
    · by_cases hb : b ∈ tabs.map (·.2)
      · have z' := (if_pos hb).symm.trans z
        cases z'
        obtain ⟨q, hq, e⟩ := List.mem_map.mp hb
        have h1 := (hT q hq).2
        rw [e] at h1
        exact h1
      · have z' := (if_neg hb).symm.trans z
        cases z'
    · exfalso
      refine z (if_neg fun hb => ?_)
      obtain ⟨q, hq, e⟩ := List.mem_map.mp hb
      exact hTa q hq e
  | none =>
    have nA : ¬ a ∈ tabs.map (·.2) := fun hb => by
      obtain ⟨q, hq, e⟩ := List.mem_map.mp hb
      exact hTa q hq e
    refine core (fun b => if b ∈ tabs.map (·.2) then some (.tbl #[]) else if b = a then some (.frz { cls := .type "list", data := .seq vs.toArray } (.lst (ns.map V.int))) else none) (fun b u z => ?_) (.inl (.inr ⟨{ cls := .type "list", data := .seq vs.toArray }, (if_neg nA).trans (if_pos rfl)⟩))
      (fun q hq => if_pos (List.mem_map_of_mem hq)) (fun b u z => ?_) fun _ => hk
    · by_cases hb : b ∈ tabs.map (·.2)
      · obtain ⟨q, hq, e⟩ := List.mem_map.mp hb
        exact .inr ⟨q, hq, e.symm, by have z' := (if_pos hb).symm.trans z; cases z'; rfl⟩
      · have z' := (if_neg hb).symm.trans z
        by_cases hb2 : b = a
        · have z' := (if_pos hb2).symm.trans z'
          cases z'
          exact .inl ⟨hb2, _, _, rfl⟩
        · have z' := (if_neg hb2).symm.trans z'
          cases z'
    · by_cases hb : b ∈ tabs.map (·.2)
      · have z' := (if_pos hb).symm.trans z
        cases z'
        obtain ⟨q, hq, e⟩ := List.mem_map.mp hb
        have h1 := (hT q hq).2
        rw [e] at h1
        exact h1
      · have z' := (if_neg hb).symm.trans z
        by_cases hb2 : b = a
        · have z' := (if_pos hb2).symm.trans z'
          cases z'
          subst hb2
          exact ⟨ha, by rw [List.length_map]; exact hl, vs, _, rv, ha⟩
        · have z' := (if_neg hb2).symm.trans z'
          cases z'
/-- the law from its promise; xs the names of the top's defs that make functions, with their code objects and tables -/
theorem walk_ofT {l : PySem.W.OpenLaw} {n k : Nat} {q : Program} {loose : List Str} {XP : (Str → Option Value) → Heap → Prop} {YP : World → Heap → Prop} {d : DefRec} {K : Params → PySem.W.Frag} {CX : World → CXT} {sp : World → Sp} {x : Str} {tabs : List (Addr × Addr)} {xs : List (Str × DefRec)}
    (hn : l.most = some n) (hn2 : n ≤ sizeLine) (hdf : d.params.defaults = []) (hr : Room k callerA)
    (hY : ∀ (w : World) (h : Heap), YP w h → (K w.params).In h) (hKT : ∀ w : World, PySem.W.noTabs (K w.params) = true)
    (hx : ∀ y ∈ xs, (recsOf q).find? (fun e => e.name == y.1) = some y.2) (htb : ∀ (w : World) (t : Addr × Addr), t ∈ tabs → ∃ y ∈ xs, PySem.W.tabIn (K w.params) y.1 = some t)
    (F : ∀ (w : World) (mg : Str → Option Value) (fa : Addr) (h : Heap), (K w.params).In h → h.Ns mainGlobals mg → mg d.name = some (.ref fa) →
      ∃ fd : FuncData, (∀ (s : Shared) (u : Value), BindsTo s fd ⟨[u], []⟩ [(x, u)]) ∧
        ∀ base : Heap, (K w.params).In base → base.Ns mainGlobals mg → PySem.W.CodeAll tabs base → BMain mg base → FnOk l.prog w (K w.params) mg base (CX w) k fa fd [x] (sp w))
    (hsp : ∀ (w : World) (H : Hp) (a : Addr) (ns : List Int), ns.length ≤ n → SqL (K w.params) H a (ns.map V.int) → (∀ t ∈ tabs, H t.2 = some (.tbl #[])) → sp w [.ref a] H (fun v _ => v = .bl true) fun _ _ _ => False)
    (hCX : ∀ (w : World) (H : Hp) (s : Shared) (e : Value) (s' : Shared), CX w [] H s (fun _ _ _ => False) e s' → False) :
    PySem.W.WalkO q loose XP YP l.row.toRowW d [] (fun f vs => PySem.call f vs) := by
  refine Att.attach_call hn hdf fun w s₀ s₁ mg mb fa o pm cd doc a vs ns G Y ho hd hcd hmg hobj hints hlen hg => ?_
  have KX := hY w _ Y
  obtain ⟨fd, hb, hF⟩ := F w mg fa _ KX G.T.g hmg
  have hT : PySem.W.TabsAt tabs s₁.heap := fun t ht => by
    obtain ⟨y, hy, e⟩ := htb w t ht
    exact PySem.W.tab_of (x := y.1) G.T KX (hx y hy) e
  exact law_callT hT (hKT w) G.T.bmain KX G.T.g G.T.b G.T.builtins G.T.nolimit hg hobj hints (Nat.le_trans hlen hn2) hr hF hb (fun H hS hTb => hsp w H a ns hlen hS hTb) fun H e s' => hCX w H s₁ e s'
end L2

set_option maxHeartbeats 4000000
namespace L2
open PySem PySem.Spec PyProof.Rows

/-! ### a thing frozen while a callee runs -/
def ers (H : Hp) (c : Addr) : Hp := fun b => if b = c then none else H b
theorem ers_same {H : Hp} {c : Addr} : ers H c c = none := if_pos rfl
theorem ers_ne {H : Hp} {b c : Addr} (h : b ≠ c) : ers H c b = H b := if_neg h
def Exact (c : Addr) (o : Obj) : Heap → Prop := fun h => h.get? c = some o
abbrev frzC (c : Addr) (o : Obj) : HO := .frz o (.ext (Exact c o))
section
variable {P : Program} {w : World} {H : Hp} {h : Heap} {c : Addr} {o : Obj}
theorem frzC_ok (e : h.get? c = some o) : ObjOk P w H h c (frzC c o) := ⟨e, e, ⟨o, e⟩, fun _ _ x k => k o x⟩
theorem hok_frz (k : HOk P w H h) (hn : H c = none) (e : h.get? c = some o) : HOk P w (upd H c (frzC c o)) h := fun b u q => by
  by_cases hb : b = c
  · subst hb
    rw [upd_same] at q
    cases q
    exact frzC_ok e
  · rw [upd_ne hb] at q
    exact (k b u q).stay (fun _ _ _ z => z) (fun d z => by rw [upd_ne (ne_of_none z hn)]; exact z) fun d xs z => by rw [upd_ne (ne_of_none z hn)]; exact z
theorem hok_ers {o' : HO} (k : HOk P w H h) (hf : H c = some o') (n1 : ∀ x, o' ≠ .own x) (n2 : ∀ xs, o' ≠ .tup xs) : HOk P w (ers H c) h := fun b u q => by
  have hb : b ≠ c := fun z => by rw [z, ers_same] at q; cases q
  rw [ers_ne hb] at q
  refine (k b u q).stay (fun _ _ _ z => z) (fun d z => ?_) fun d xs z => ?_
  · rw [ers_ne (fun y => by rw [y, hf] at z; exact n1 _ (Option.some.inj z))]; exact z
  · rw [ers_ne (fun y => by rw [y, hf] at z; exact n2 _ (Option.some.inj z))]; exact z
end
/-- f(e, ..) where the cell c of this frame's name in slot i is frozen while f runs -/
def tCallC (i : Nat) (c : Addr) (sp : Sp) (E : XK) (t : TA) : TE := fun σ H Q => ∃ v, σ[i]? = some (some v) ∧ t σ H fun vs H1 => H1 c = none → ∀ (o : Obj) (u : Value), RelV v u → o.data = .cell (some u) →
  sp vs (upd H1 c (frzC c o)) (fun v' H' => Q v' (ers H' c)) E
theorem pe_callC {X : Cx} {k i : Nat} {f c : Addr} {fd : FuncData} {ps : List Str} {sp : Sp} {E : XK} {x y : Str} {p pos : Pos} {e : Expr} {es : List Expr} {t : TA}
    (F : FnOk X.prog X.w X.K X.mg X.base CX0 k f fd ps sp) (hr : Room k X.A) (hg : Gl X x) (hm : X.mg x = some (.ref f)) (hk : PySem.W.keepIn X.K (.ref f) = true) (hb : Binds X.K fd ps [])
    (hi : X.N[i]? = some y) (hv : Vis X.env.scope y) (hcell : X.env.kindOf y = some .cell) (hc : X.env.cells.lookup y = some c) (hfn : X.fn y = true)
    (ha : PA X (e :: es) t) (hdb : (x == ("__debug__" : Str)) = false := by decide) (he : starEach (e :: es) X.env = (false, eval e X.env) :: starEach es X.env := by rfl) (hpl : (backTo pos (starEach es X.env)).any (·.1) = false := by rfl) :
    PE X (.Call (.Name x p) (e :: es) [] pos) (tCallC i c sp E t) := by
  intro pins s σ H Q I h
  obtain ⟨v, hvi, h⟩ := h
  refine wpAny_Call_Name_kw (ld_glob I hg hm ?_ hdb)
  refine PySem.W.callWith_K (h₀ := X.base) I.ok.mod.kin hk (thn (ha pos pins s σ H _ I h) fun us s1 ⟨vs, H1, I1, r, q⟩ => ⟨I1.kIn, ?_⟩) he hpl
  obtain ⟨m, hn, hl⟩ := I1.loc
  obtain ⟨u, ru, lk⟩ := hl i y v hi hvi hv
  have hic : s1.heap.IsCell c (some u) := by
    rcases lk with ⟨z, _⟩ | ⟨_, c', e', z⟩
    · rw [hcell] at z; cases z
    · rw [hc] at e'; cases e'; exact z
  obtain ⟨o, ho, hod⟩ := hic
  have hn1 : H1 c = none := I1.freeC y c hc
  have q := q hn1 o u ru hod
  have hge : X.s₀.heap.objs.size ≤ c := I1.ok.cab y c hfn hc
  have nfr : c ∉ frs X.stack := fun z => by
    rcases List.mem_cons.mp (I1.stkSub c z) with z | z
    · exact I1.cne y c hc z
    · obtain ⟨_, o', ho', _⟩ := I1.ok.funs.mem z
      exact Nat.lt_irrefl _ (Nat.lt_of_lt_of_le (Heap.lt_size ho') hge)
  have nbase : ∀ b o', X.base.get? b = some o' → b ≠ c := fun b o' e' z => by
    rw [z] at e'
    exact Nat.lt_irrefl _ (Nat.lt_of_lt_of_le (Heap.lt_size e') (Nat.le_trans I1.ok.bsz hge))
  have e0 := I1.env0
  have e1 : Env0 X.prog X.w X.K X.mg X.base X.A X.stack s1 (upd H1 c (frzC c o)) :=
    ⟨e0.frames, e0.mod, fun b o' eb => ⟨(e0.bs b o' eb).1, by rw [upd_ne (nbase b o' eb)]; exact (e0.bs b o' eb).2⟩, e0.bsz, e0.funs, fun b hb' => by
      have hbc : b ≠ c := fun z => by rw [z] at hb'; exact nfr hb'
      rw [upd_ne hbc]; exact e0.frf b hb', hok_frz e0.hok hn1 ho, e0.bare⟩
  have hl' : us.length = ps.length := by rw [← r.length]; exact F.len _ _ _ _ q
  have hbb := hb s1 us I1.kIn (by rw [List.append_nil]; exact hl')
  rw [List.append_nil] at hbb
  refine wpAny_call (codeAny_mono (F.run X.A X.stack s1 _ ⟨us, []⟩ us vs _ E hr e1 hbb r q) fun r s' hq => ?_)
  cases r with
  | error e => exact False.elim hq
  | ok fl =>
    cases fl with
    | next => exact False.elim hq
    | brk => exact False.elim hq
    | cont => exact False.elim hq
    | ret u' =>
      obtain ⟨v', H', os, bare, un, hok', r', q'⟩ := hq
      have hf : H' c = some (frzC c o) := un.frzs c o _ upd_same
      have hoc : s'.heap.get? c = some o := (hok' c _ hf).1
      refine ⟨v', ers H' c, I1.call' (ch := []) os ⟨fun b ob e2 n1 hb' hx => ?_, fun b ob e2 n1 hb' hx => ?_, fun b ob e2 n1 hx => ?_, fun b ob e2 hx => un.there b ob e2 hx, fun b xs e2 => ?_, fun b ob u e2 => ?_, fun b ps' e2 => ?_⟩ (hok_ers hok' hf (fun _ z => by cases z) fun _ z => by cases z) bare (fun b z => absurd z (by simp)), r', q'⟩
      · by_cases hbc : b = c
        · rw [hbc] at e2 ⊢
          rw [ho] at e2; cases e2
          exact hoc
        · exact un.keep b ob e2 (by rw [upd_ne hbc]; exact n1) hb' hx
      · have hbc : b ≠ c := fun z => by rw [z] at hb'; exact nfr hb'
        exact un.slot b ob e2 (by rw [upd_ne hbc]; exact n1) hb' hx
      · by_cases hbc : b = c
        · rw [hbc]; exact ers_same
        · rw [ers_ne hbc]
          exact un.free b ob e2 (by rw [upd_ne hbc]; exact n1) hx
      · have hbc := ne_of_none e2 hn1
        rw [ers_ne hbc]
        exact un.tups b xs (by rw [upd_ne hbc]; exact e2)
      · have hbc := ne_of_none e2 hn1
        rw [ers_ne hbc]
        exact un.frzs b ob u (by rw [upd_ne hbc]; exact e2)
      · have hbc := ne_of_none e2 hn1
        rw [ers_ne hbc]
        exact un.tbls b ps' (by rw [upd_ne hbc]; exact e2)
/-! ### lambda -/
def LamObj (f : Addr) (qual : Str) (params : Arguments) (body : Expr) (scope : Scope) (clos : List (Str × Addr)) (c' : Addr) : Heap → Prop := fun h => ∃ pm ctv, h.get? f = some (PySem.W.kla_obj "<lambda>" qual params body scope clos pm c' ctv)
def RecAt (c' : Addr) (qual : Str) : Heap → Prop := fun h => h.CodeRec (.ref c') qual
/-- the function at f, made by a lambda -/
def Lam (H : Hp) (f : Addr) (qual : Str) (params : Arguments) (body : Expr) (scope : Scope) (clos : List (Str × Addr)) : Prop := ∃ c', H f = some (.ext (LamObj f qual params body scope clos c')) ∧ H c' = some (.ext (RecAt c' qual))
/-- the code table of a def that makes lambdas alone -/
def TabAt (H : Hp) (P : Addr) (qual : Str) : Prop := ∃ ps, H P = some (.tbl ps) ∧ TriplesOk ps.toList ∧ ∀ pos c, codeAmong pos ps.toList = some c → ∃ c', c = .ref c' ∧ H c' = some (.ext (RecAt c' qual))
theorem TabAt.start {H : Hp} {P : Addr} {qual : Str} (h : H P = some (.tbl #[])) : TabAt H P qual := ⟨#[], h, trivial, fun pos c e => by cases e⟩
/-- all stays but the table -/
def SameT (P : Addr) (H H' : Hp) : Prop := ∀ b u, b ≠ P → H b = some u → H' b = some u
theorem among_snoc {pos p : Pos} {c x : Value} (l : List Value) (h : TriplesOk l) (hx : codeAmong pos (l ++ [rawInt p.line, rawInt p.col, c]) = some x) : codeAmong pos l = some x ∨ x = c := by
  fun_induction TriplesOk l with
  | case1 =>
    simp only [List.nil_append, codeAmong, rawInt] at hx
    split at hx
    · exact .inr (Option.some.inj hx).symm
    · cases hx
  | case2 a t b u y rest ih =>
    simp only [List.cons_append, codeAmong] at hx ⊢
    split at hx
    · rename_i hc
      rw [if_pos hc]
      exact .inl hx
    · rename_i hc
      rw [if_neg hc]
      exact ih h hx
  | case3 => exact False.elim h
theorem triples_snoc {p : Pos} {c : Value} (l : List Value) (h : TriplesOk l) : TriplesOk (l ++ [rawInt p.line, rawInt p.col, c]) := by
  fun_induction TriplesOk l with
  | case1 => exact trivial
  | case2 a t b u y rest ih => exact ih h
  | case3 => exact False.elim h
def tLam (P : Addr) (qual : Str) (params : Arguments) (body : Expr) (scope : Scope) (clos : List (Str × Addr)) : TE := fun _ H Q => TabAt H P qual ∧ ∀ f H', H f = none → SameT P H H' → TabAt H' P qual → Lam H' f qual params body scope clos → Q (.ref f) H'
theorem rec_stable {c' : Addr} {qual : Str} : ∀ h1 h2 : Heap, RecAt c' qual h1 → (∀ o, h1.get? c' = some o → h2.get? c' = some o) → RecAt c' qual h2 := fun h1 h2 ⟨c, o, vs, t, e, ho, r⟩ k => by
  cases e
  exact ⟨c', o, vs, t, rfl, k o ho, r⟩
theorem pe_lam {X : Cx} {c P : Addr} {params : Arguments} {body : Expr} {scope : Scope} {clos : List (Str × Addr)} {pos : Pos} (hC : PySem.W.CodeHd X.base c P) (hcd : X.env.code = .ref c) (hB : BMain X.mg X.base) (hcl : closureFor scope X.env = pure clos) (hdef : defaultsOf params X.env = ([], []) := by rfl) :
    PE X (.Lambda params body scope pos) (tLam P (X.env.qual ++ "<lambda>") params body scope clos) := by
  intro pins s σ H Q I h
  obtain ⟨⟨ps, hP, ht, hcs⟩, q⟩ := h
  refine PySem.W.kla_eval hdef ?_
  have hPo : s.heap.get? P = some (PySem.W.tabObj ps) := I.hok P _ hP
  have hgs : s.heap.Ns mainGlobals X.mg := I.mod.glob.keeps I.bk
  obtain ⟨bm, ob, b1, b2, b3, b4, b5, b6⟩ := hB
  have hgP : mainGlobals ≠ P := fun z => by
    obtain ⟨o, es, ep, e, hd, _⟩ := hgs
    rw [z, hPo] at e; cases e; cases hd
  have hbP : bm ≠ P := fun z => by
    have e := I.bk _ _ b3
    rw [z, hPo] at e; cases e; cases b4
  have hbG : bm ≠ mainGlobals := fun z => by
    obtain ⟨o, es, ep, e, hd, _⟩ := hgs
    have e3 := I.bk _ _ b3
    rw [z, e] at e3; cases e3; rw [hd] at b6; cases b6
  have hBA : s.heap.BuiltinsAt X.mg P := ⟨bm, ob, b1, b2, hbG, hbP, I.bk _ _ b3, b4, b5, b6⟩
  have hlt : P < s.heap.objs.size := Heap.lt_size hPo
  cases hca : codeAmong pos ps.toList with
  | none =>
    refine PySem.W.kla_makeFunction (mg := X.mg) hcl I.ok.glob hgs hcd (hC.keeps I.bk) hPo ht hca hgP hBA fun c' ctv h' tk hx hge hlt' hrec htb => ?_
    have nPc : P ≠ c' := Nat.ne_of_lt (Nat.lt_of_lt_of_le hlt hge)
    have ncf : c' ≠ h'.objs.size := Nat.ne_of_lt hlt'
    have nPf : P ≠ h'.objs.size := Nat.ne_of_lt (Heap.lt_size htb)
    have hsz : s.heap.objs.size ≤ h'.objs.size := Nat.le_of_lt (Nat.lt_of_le_of_lt hge hlt')
    have fc : H c' = none := I.hok.fresh hge
    have ff : H h'.objs.size = none := I.hok.fresh hsz
    generalize hfe : h'.objs.size = f at ncf nPf ff
    have kx : ∀ b o, b ≠ P → s.heap.get? b = some o → (h'.push (PySem.W.kla_obj "<lambda>" (X.env.qual ++ "<lambda>") params body scope clos ((X.mg "__name__").getD .none) c' ctv)).get? b = some o := fun b o n e => Heap.get?_push_of_some _ (hx b o n e)
    have hPn := Heap.get?_push_of_some (PySem.W.kla_obj "<lambda>" (X.env.qual ++ "<lambda>") params body scope clos ((X.mg "__name__").getD .none) c' ctv) htb
    have hfo : (h'.push (PySem.W.kla_obj "<lambda>" (X.env.qual ++ "<lambda>") params body scope clos ((X.mg "__name__").getD .none) c' ctv)).get? f = some (PySem.W.kla_obj "<lambda>" (X.env.qual ++ "<lambda>") params body scope clos ((X.mg "__name__").getD .none) c' ctv) := by
      rw [← hfe]; exact Heap.get?_push_size _ rfl
    have hrec' : RecAt c' (X.env.qual ++ "<lambda>") (h'.push (PySem.W.kla_obj "<lambda>" (X.env.qual ++ "<lambda>") params body scope clos ((X.mg "__name__").getD .none) c' ctv)) := rec_stable _ _ hrec fun o e => Heap.get?_push_of_some _ e
    generalize (h'.push (PySem.W.kla_obj "<lambda>" (X.env.qual ++ "<lambda>") params body scope clos ((X.mg "__name__").getD .none) c' ctv)) = h2 at kx hPn hfo hrec'
    let H' : Hp := upd (upd (upd H P (.tbl (ps ++ #[rawInt pos.line, rawInt pos.col, .ref c']))) c' (.ext (RecAt c' (X.env.qual ++ "<lambda>")))) f (.ext (LamObj f (X.env.qual ++ "<lambda>") params body scope clos c'))
    have eP : H' P = some (.tbl (ps ++ #[rawInt pos.line, rawInt pos.col, .ref c'])) := by
      show upd _ _ _ P = _
      rw [upd_ne nPf, upd_ne nPc, upd_same]
    have ec : H' c' = some (.ext (RecAt c' (X.env.qual ++ "<lambda>"))) := by
      show upd _ _ _ c' = _
      rw [upd_ne ncf, upd_same]
    have ef : H' f = some (.ext (LamObj f (X.env.qual ++ "<lambda>") params body scope clos c')) := upd_same
    have eo : ∀ b, b ≠ P → b ≠ c' → b ≠ f → H' b = H b := fun b n1 n2 n3 => by
      show upd _ _ _ b = _
      rw [upd_ne n3, upd_ne n2, upd_ne n1]
    have st : ∀ b u, b ≠ P → H b = some u → H' b = some u := fun b u n e => by rw [eo b n (ne_of_none e fc) (ne_of_none e ff)]; exact e
    have I2 : Inv X pins σ H' { s with heap := h2, toks := tk } := by
      refine I.un ⟨fun b o e n _ _ => ?_, fun b o e n hb _ => ?_, fun b o e n _ => ?_, fun b o e _ => ?_, fun b xs e => ?_, fun b o u e => ?_, fun b qs e => ?_⟩ fun b u e => ?_
      · exact kx b o (fun z => by rw [z, hP] at n; cases n) e
      · exact ⟨o.slots, kx b o (fun z => by rw [z, hP] at n; cases n) e⟩
      · have hb : b < s.heap.objs.size := Heap.lt_size e
        rw [eo b (fun z => by rw [z, hP] at n; cases n) (Nat.ne_of_lt (Nat.lt_of_lt_of_le hb hge)) (by rw [← hfe]; exact Nat.ne_of_lt (Nat.lt_of_lt_of_le hb hsz))]
        exact n
      · by_cases hb : b = P
        · rw [hb]; exact ⟨_, hPn⟩
        · exact ⟨o, kx b o hb e⟩
      · exact st b _ (fun z => by rw [z, hP] at e; cases e) e
      · exact st b _ (fun z => by rw [z, hP] at e; cases e) e
      · by_cases hb : b = P
        · rw [hb, hP] at e
          cases e
          exact ⟨_, by rw [hb]; exact eP⟩
        · exact ⟨#[], by rw [st b _ hb e]; simp⟩
      · by_cases hb : b = P
        · rw [hb, eP] at e
          cases e
          rw [hb]
          exact hPn
        · by_cases hb2 : b = c'
          · rw [hb2, ec] at e
            cases e
            rw [hb2]
            obtain ⟨c₂, o2, vs2, t2, e2, ho2, _⟩ := id hrec'
            cases e2
            exact ⟨hrec', ⟨o2, ho2⟩, rec_stable⟩
          · by_cases hb3 : b = f
            · rw [hb3, ef] at e
              cases e
              rw [hb3]
              exact ⟨⟨_, _, hfo⟩, ⟨_, hfo⟩, fun h1 h2 ⟨pm, ct, z⟩ k => ⟨pm, ct, k _ z⟩⟩
            · rw [eo b hb hb2 hb3] at e
              refine (I.hok b u e).stay (fun d v hd' z => kx d v (fun y => ?_) z) (fun d z => st d _ (fun y => by rw [y, hP] at z; cases z) z) fun d xs z => st d _ (fun y => by rw [y, hP] at z; cases z) z
              rcases hd' with y' | y'
              · exact hb (y'.symm.trans y)
              · rw [y, hP] at y'; cases y'
    refine ⟨.ref f, H', I2, rfl, q f H' ff st ⟨_, eP, ?_, fun pos' x hx' => ?_⟩ ⟨c', ef, ec⟩⟩
    · have := triples_snoc (p := pos) (c := .ref c') ps.toList ht
      simpa using this
    · have hx2 : codeAmong pos' (ps.toList ++ [rawInt pos.line, rawInt pos.col, .ref c']) = some x := by simpa using hx'
      rcases among_snoc _ ht hx2 with z | z
      · obtain ⟨c2, e1, e2⟩ := hcs pos' x z
        exact ⟨c2, e1, st c2 _ (fun y => by rw [y, hP] at e2; cases e2) e2⟩
      · exact ⟨c', z, ec⟩
  | some cv =>
    obtain ⟨c', rfl, hc'⟩ := hcs pos cv hca
    refine PySem.W.kla_makeFunctionHit (mg := X.mg) hcl I.ok.glob hgs hcd (hC.keeps I.bk) hPo ht hca hBA fun ctv h' tk hk hsz => ?_
    have ff : H h'.objs.size = none := I.hok.fresh hsz
    have I2 := I.laid (a := h'.objs.size) (o := .ext (LamObj h'.objs.size (X.env.qual ++ "<lambda>") params body scope clos c')) (t' := tk) (fun b u e => Heap.get?_push_of_some (PySem.W.kla_obj "<lambda>" (X.env.qual ++ "<lambda>") params body scope clos ((X.mg "__name__").getD .none) c' ctv) (hk b u e)) hsz
      ⟨⟨_, _, Heap.get?_push_size _ rfl⟩, ⟨_, Heap.get?_push_size _ rfl⟩, fun h1 h2 ⟨pm, ct, z⟩ k => ⟨pm, ct, k _ z⟩⟩
    have st : ∀ b u, H b = some u → upd H h'.objs.size (.ext (LamObj h'.objs.size (X.env.qual ++ "<lambda>") params body scope clos c')) b = some u := fun b u e => by rw [upd_ne (ne_of_none e ff)]; exact e
    exact ⟨.ref _, _, I2, rfl, q _ _ ff (fun b u _ e => st b u e) ⟨ps, st _ _ hP, ht, fun pos' x hx => (let ⟨c2, e1, e2⟩ := hcs pos' x hx; ⟨c2, e1, st _ _ e2⟩)⟩ ⟨c', upd_same, st _ _ hc'⟩⟩

/-! ### a function that is a value -/
def FvOk (P : Program) (w : World) (K : PySem.W.Frag) (mg : Str → Option Value) (base : Heap) (k : Nat) (f : Addr) (R : Hp → Prop) (sp : Sp) : Prop :=
  (∀ H h, R H → HOk P w H h → PySem.W.FnAt f h) ∧ ∀ (A : Around) (outer : List Env) (s : Shared) (H : Hp) (us : List Value) (vs : List V) (Q : VK) (E : XK), Room k A → Env0 P w K mg base A outer s H → R H → Vals vs us → sp vs H Q E →
    codeAny (model P w) A (.call (.ref f) ⟨us, []⟩) (CR CX0 outer P w H s Q E) s
theorem FvOk.mono {P : Program} {w : World} {K : PySem.W.Frag} {mg : Str → Option Value} {base : Heap} {j k : Nat} {f : Addr} {R : Hp → Prop} {sp : Sp} (F : FvOk P w K mg base j f R sp) (h : j ≤ k) : FvOk P w K mg base k f R sp :=
  ⟨F.1, fun A outer s H us vs Q E hr => F.2 A outer s H us vs Q E (hr.mono h)⟩
def tCallV (P : Program) (w : World) (K : PySem.W.Frag) (mg : Str → Option Value) (base : Heap) (k i : Nat) (t : TA) : TE := fun σ H Q => ∃ f R sp, σ[i]? = some (some (.ref f)) ∧ FvOk P w K mg base k f R sp ∧ R H ∧ t σ H fun vs H1 => R H1 ∧ sp vs H1 Q fun _ _ _ => False
theorem pe_callV {X : Cx} {k i : Nat} {x : Str} {p pos : Pos} {e : Expr} {es : List Expr} {t : TA} (hr : Room k X.A) (hN : X.N[i]? = some x) (hv : Vis X.env.scope x) (ha : PA X (e :: es) t)
    (hd : (x == ("__debug__" : Str)) = false := by decide) (hcd : (x == ("__classdict__" : Str)) = false := by decide) (he : starEach (e :: es) X.env = (false, eval e X.env) :: starEach es X.env := by rfl) (hpl : (backTo pos (starEach es X.env)).any (·.1) = false := by rfl) :
    PE X (.Call (.Name x p) (e :: es) [] pos) (tCallV X.prog X.w X.K X.mg X.base k i t) := by
  intro pins s σ H Q I h
  obtain ⟨f, R, sp, hi, F, hR, h⟩ := h
  refine wpAny_Call_Name_kw (thn (pe_var hN hv hd hcd pins s σ H (fun v H' => v = .ref f ∧ H' = H) I ⟨_, hi, rfl, rfl⟩) fun u s1 ⟨v, H1, I1, r1, e1, e2⟩ => ?_)
  subst e1 e2
  cases r1
  refine PySem.W.callWith_F (F.1 _ _ hR I1.hok) (thn (ha pos pins s1 σ _ _ I1 h) fun us s2 ⟨vs, H2, I2, r2, hR2, q⟩ => ⟨F.1 _ _ hR2 I2.hok, ?_⟩) he hpl
  refine wpAny_call (codeAny_mono (F.2 X.A X.stack s2 H2 us vs Q _ hr I2.env0 hR2 r2 q) fun r s' hq => ?_)
  cases r with
  | error e => exact False.elim hq
  | ok fl =>
    cases fl with
    | ret u => exact I2.after hq
    | next => exact False.elim hq
    | brk => exact False.elim hq
    | cont => exact False.elim hq
def cxLam (P : Program) (w : World) (K : PySem.W.Frag) (mg : Str → Option Value) (base : Heap) (N : List Str) (qual : Str) (scope : Scope) (f c' : Addr) (y : Str) (c : Addr) (A : Around) (outer : List Env) (s : Shared) (H : Hp) : Cx where
  prog := P
  w := w
  K := K
  mg := mg
  base := base
  A := A.deeper (PySem.W.envX qual scope s.heap.objs.size f (.ref c') [(y, c)])
  N := N
  s₀ := s
  H₀ := ers H c
  env := PySem.W.envX qual scope s.heap.objs.size f (.ref c') [(y, c)]
  outer := outer
  stack := PySem.W.envX qual scope s.heap.objs.size f (.ref c') [(y, c)] :: outer
  ex := []
  calm := true
  fn := fun _ => false
  pn := []
  xe := fun _ _ => False
/-- a lambda's scope: one parameter x, one name y of the def around it -/
structure LamScope (x y : Str) (scope : Scope) : Prop where
  kind : scope.kind = .function
  co : scope.isCoroutine = false
  gen : scope.isGenerator = false
  nocell : ∀ z ∈ scope.names, z.2 ≠ .cell
  free : ∀ z ∈ scope.names, z.2 = .free → z.1 = y
  lx : scope.names.lookup x = some .local
  ly : scope.names.lookup y = some .free
/-- the cell of y stands frozen and holds v -/
def CellIs (H : Hp) (c : Addr) (v : V) : Prop := ∃ o u, H c = some (frzC c o) ∧ RelV v u ∧ o.data = .cell (some u)
theorem lam_ok {P : Program} {w : World} {K : PySem.W.Frag} {mg : Str → Option Value} {base : Heap} {k : Nat} {f c : Addr} {qual x y : Str} {params : Arguments} {body : Expr} {scope : Scope} {v : V} {sp : Sp} (S : LamScope x y scope)
    (hbind : ∀ (pm ctv : Value) (c' : Addr) (u : Value), bindArgs (PySem.W.kla_fn "<lambda>" qual params body scope [(y, c)] pm (.ref c') ctv) ⟨[u], []⟩ = pure [(x, u)])
    (len : ∀ vs H Q E, sp vs H Q E → vs.length = 1)
    (hbody : ∀ (c' : Addr) (A : Around) (outer : List Env) (s : Shared) (H : Hp) (o : Obj) (a : V) (Q : VK) (E : XK), Room k (A.deeper (PySem.W.envX qual scope s.heap.objs.size f (.ref c') [(y, c)])) → H c = some (frzC c o) → sp [a] H Q E →
      ∃ t, PE (cxLam P w K mg base [x, y] qual scope f c' y c A outer s H) body t ∧ t [some a, some v] (ers H c) fun r H' => H' c = none → Q r (upd H' c (frzC c o))) :
    FvOk P w K mg base (k + 1) f (fun H => Lam H f qual params body scope [(y, c)] ∧ CellIs H c v) sp := by
  refine ⟨fun H h ⟨⟨c', hf, _⟩, _⟩ hok => ?_, fun A outer s H us vs Q E hr e0 ⟨⟨c', hf, hc'⟩, o, u, hc, ru, hod⟩ r hsp => ?_⟩
  · obtain ⟨⟨pm, ctv, e⟩, _⟩ := hok f _ hf
    exact ⟨_, _, _, _, e⟩
  · have hl := len _ _ _ _ hsp
    match vs, hl, r, hsp with
    | [a], _, r, hsp =>
      obtain ⟨ua, rfl, ra⟩ := vals1 r
      obtain ⟨⟨pm, ctv, hfo⟩, _⟩ := e0.hok f _ hf
      obtain ⟨hrec, _⟩ := e0.hok c' _ hc'
      have hco : s.heap.get? c = some o := (e0.hok c _ hc).1
      have lim : s.heap.NoLimit := e0.mod.nolimit.keeps fun b o e => (e0.bs b o e).1
      have nfr : c ∉ frs outer := fun z => by
        have := e0.frf c z
        rw [hc] at this; cases this
      obtain ⟨t, ht, hq⟩ := hbody c' A outer s H o a Q E (hr.deeper _) hc hsp
      refine PySem.W.kla_callFunE hr.depth hfo rfl S.co S.gen rfl hrec ?_
      rw [hbind]
      refine wpAny_pure (wpAny_newFunctionEnv S.nocell (fun z hz => by rw [List.mem_singleton.mp hz]; exact S.lx) (fun h₁ hns hsb => ⟨lim.fresh _ hsb, ?_⟩) S.kind)
      have hk₁ : ∀ b o, s.heap.get? b = some o → h₁.get? b = some o := fun b o e => hsb.extBut b o (Nat.ne_of_lt (Heap.lt_size e)) (Heap.get?_push_of_some _ e)
      have noA : ∀ b : Addr, b ∉ (cxLam P w K mg base [x, y] qual scope f c' y c A outer s H).ex := fun b z => absurd (show b ∈ ([] : List Addr) from z) (by simp)
      have lk : ∀ z d, ([(y, c)] : List (Str × Addr)).lookup z = some d → z = y ∧ d = c := fun z d e => by
        have := PySem.mem_of_lookup e
        have e2 := List.mem_singleton.mp this
        exact ⟨congrArg (·.1) e2, congrArg (·.2) e2⟩
      have hly : ([(y, c)] : List (Str × Addr)).lookup y = some c := by simp
      have I : Inv (cxLam P w K mg base [x, y] qual scope f c' y c A outer s H) [] [some a, some v] (ers H c) { s with heap := h₁, toks := s.toks + 1 } := by
        refine ⟨⟨e0.mod, S.kind, rfl, rfl, Nat.le_refl _, fun z1 z2 d h1 h2 => ?_, fun z hz => ?_, fun z d h => (by cases h), fun _ => hr.hd, Around.frames_deeper e0.frames, .inr ⟨rfl, rfl⟩, fun b z => absurd z (noA b), fun b ob e => ⟨(e0.bs b ob e).1, ?_⟩, e0.bsz, fun b _ _ => noA b, fun b z => absurd z (noA b), e0.funs, fun b z => ?_⟩,
          rfl, e0.bare, Un.kept hk₁, ⟨_, hns, fun i z v' h1 h2 h3 => ?_⟩, fun z d h => ?_, ?_, fun z d h => ?_, fun p hp => absurd (show p ∈ ([] : List (Addr × Obj)) from hp) (by simp), (hok_ers e0.hok hc (fun _ z => by cases z) fun _ z => by cases z).kept hk₁, rfl⟩
        · exact (lk z1 d h1).1.trans (lk z2 d h2).1.symm
        · have hz : scope.names.lookup z = some .cell ∨ scope.names.lookup z = some .free := hz
          rcases hz with hz | hz
          · exact absurd rfl (S.nocell _ (PySem.mem_of_lookup hz))
          · have := S.free _ (PySem.mem_of_lookup hz) rfl
            exact ⟨c, by show ([(y, c)] : List (Str × Addr)).lookup z = _; rw [show z = y from this]; exact hly⟩
        · show ers H c b = none
          by_cases hb : b = c
          · rw [hb]; exact ers_same
          · rw [ers_ne hb]; exact (e0.bs b ob e).2
        · show ers H c b = none
          by_cases hb : b = c
          · rw [hb]; exact ers_same
          · rw [ers_ne hb]; exact e0.frf b z
        · match i, h1, h2 with
          | 0, h1, h2 =>
            cases h1; cases h2
            exact ⟨ua, ra, .inl ⟨S.lx, by simp⟩⟩
          | 1, h1, h2 =>
            cases h1; cases h2
            exact ⟨u, ru, .inr ⟨.inr S.ly, c, hly, o, hk₁ _ _ hco, hod⟩⟩
          | i + 2, h1, h2 => cases h2
        · have := (lk z d h).2
          subst this
          exact ⟨some u, o, hk₁ _ _ hco, hod⟩
        · show ers H c s.heap.objs.size = none
          rw [ers_ne (Ne.symm (Nat.ne_of_lt (Heap.lt_size hco)))]
          exact e0.hok.fresh (Nat.le_refl _)
        · rw [(lk z d h).2]; exact ers_same
      refine PySem.W.kla_codeExpr (wpAny_mono (ht [] _ _ _ _ I hq) (fun u' s' hs => ?_) fun e s' hs => False.elim hs)
      obtain ⟨r', H', J, rv, q'⟩ := hs
      have hn : H' c = none := J.freeC y c hly
      have hoc : s'.heap.get? c = some o := J.base.keep c o hco ers_same nfr (noA c)
      refine ⟨r', upd H' c (frzC c o), J.os, J.bare, ⟨fun b ob e n hb hx => ?_, fun b ob e n hb hx => ?_, fun b ob e n hx => ?_, fun b ob e hx => J.base.there b ob e (noA b), fun b xs e => ?_, fun b ob u e => ?_, fun b qs e => ?_⟩, hok_frz J.hok hn hoc, rv, q' hn⟩
      · have hbc : b ≠ c := fun z => by rw [z, hc] at n; cases n
        exact J.base.keep b ob e (by show ers H c b = none; rw [ers_ne hbc]; exact n) hb (noA b)
      · have hbc : b ≠ c := fun z => by rw [z, hc] at n; cases n
        exact J.base.slot b ob e (by show ers H c b = none; rw [ers_ne hbc]; exact n) hb (noA b)
      · have hbc : b ≠ c := fun z => by rw [z, hc] at n; cases n
        rw [upd_ne hbc]
        exact J.base.free b ob e (by show ers H c b = none; rw [ers_ne hbc]; exact n) (noA b)
      · have hbc : b ≠ c := fun z => by rw [z, hc] at e; cases e
        rw [upd_ne hbc]
        exact J.base.tups b xs (by show ers H c b = _; rw [ers_ne hbc]; exact e)
      · by_cases hbc : b = c
        · rw [hbc] at e ⊢
          rw [hc] at e
          cases e
          exact upd_same
        · rw [upd_ne hbc]
          exact J.base.frzs b ob u (by show ers H c b = _; rw [ers_ne hbc]; exact e)
      · have hbc : b ≠ c := fun z => by rw [z, hc] at e; cases e
        rw [upd_ne hbc]
        exact J.base.tbls b qs (by show ers H c b = _; rw [ers_ne hbc]; exact e)
end L2

set_option maxHeartbeats 4000000
namespace PySem
open Sem (wp)
open Builtin Builtin.Str
theorem F.nolen_lri : typeLookup (.type "list_reverseiterator") "__len__" = pure none := by rw [typeLookup_type, builtinLookup_eq_fast]; kernel_rfl
theorem F.hint_lri : typeLookup (.type "list_reverseiterator") "__length_hint__" = pure (some (.builtin "list_reverseiterator.__length_hint__")) := by rw [typeLookup_type, builtinLookup_eq_fast]; kernel_rfl
section
variable {prog : Program} {w : World} {A : Around} {E : Value → Shared → Prop} {s : Shared} {I : Addr} {fp wr : List Addr} {G : Array GenState → Array GenState → Prop} {n : Nat} {P : Nat → Value → Prop} {St : Nat → Shared → Prop}
/-- what a reversed list yields, gathered -/
theorem collect_lri {Q : List Value → Shared → Prop}
    (W : WalksS prog w A.in1 I fp wr G n P St) (hT : ∀ i s, St i s → s.TypeIs (.ref I) "list_reverseiterator") (hst : St 0 s) (hfp : ∀ b ∈ fp, b < s.heap.objs.size) (hI : I ∈ fp)
    (hQ : ∀ s' acc, Moved wr G s s' → ItemsOf P acc n → Q acc.toList s') (hn : n ≤ sizeLine) : wpAny (model prog w) A (collect (.ref I)) Q E s := by
  have off : s.heap.objs.size ∉ fp := fun hm => Nat.lt_irrefl _ (hfp _ hm)
  have ne : s.heap.objs.size ≠ I := fun e => off (e ▸ hI)
  unfold collect
  refine wpAny_bind (wpAny_runValue (codeAny_builtin F.entry_proto_collect ?_))
  rw [Around.under_plainId F.plain_proto_collect _]
  show wpAny _ A.in1 (newList [] >>= fun l => again (.builtin "list.__iadd__" ⟨[l, .ref I], []⟩)) _ _ s
  refine wpAny_bind (wpAny_newObj_type ?_)
  refine wpAny_pure ⟨plainId_quiet F.plain_list_iadd _, codeAny_builtin F.entry_list_iadd ?_⟩
  rw [Around.under_plainId F.plain_list_iadd _]
  have st1 := W.frame 0 s (s.heap.push { cls := .type "list", data := .seq ([] : List Value).toArray }) s.toks hst (Nat.le_refl _) fun b _ o e => Heap.get?_push_of_some _ e
  have at1 : (s.heap.push { cls := .type "list", data := .seq ([] : List Value).toArray }).get? s.heap.objs.size = some { cls := .type "list", data := .seq ([] : List Value).toArray } := Heap.get?_push_size _ rfl
  have dif : Builtin.List.listSameRef (.ref s.heap.objs.size) (.ref I) = false := by simp [Builtin.List.listSameRef, ne]
  show wpAny _ A.in1 (Builtin.List.listExtendWith (.ref s.heap.objs.size) (.ref I) (.ref s.heap.objs.size)) _ _ _
  unfold Builtin.List.listExtendWith
  refine wpAny_bind (wpAny_typeOf (hT 0 _ st1) ?_)
  rw [if_neg (by rw [dif]; decide)]
  refine wpAny_bind (W.self 0 _ _ _ st1 ?_)
  refine wpAny_bind (wpAny_holding ?_)
  unfold Builtin.List.listLengthHint
  refine wpAny_bind (wpAny_specialOf (hT 0 _ st1) F.nolen_lri ?_)
  show wpAny _ A.in1 (specialOf (Value.ref I) (Str.ofString "__length_hint__") >>= _) _ _ _
  refine wpAny_bind (wpAny_specialOf (hT 0 _ st1) F.hint_lri ?_)
  (generalize hid : ("list_reverseiterator.__length_hint__" : String) = id0; (fail_if_success (clear hid id0)); wp_delta; rw [show splitId id0 = some ("list_reverseiterator", "__length_hint__") from by subst hid; decide +kernel]; subst hid)
  refine wpAny_bind (wpAny_isInstance (b := true) (hT 0 _ st1) (by rw [isSubtype_type]; kernel_rfl) ?_)
  refine wpAny_pure ?_
  rw [if_neg (by decide)]
  refine wpAny_pure ⟨plainId_quiet F.plain_extend_loop _, codeAny_extend_loopS W hn _ off _ n 0 _ _ _ rfl (Nat.zero_le _) st1 at1 (ItemsOf.nil P) fun s' acc' c' hm hS' hacc => ?_⟩
  show wpAny _ A (load s.heap.objs.size >>= _) _ _ s'
  refine wpAny_bind (wpAny_load hS' ?_)
  exact wpAny_pure (hQ s' acc' (Moved.drop_new (o := { cls := .type "list", data := .seq ([] : List Value).toArray }) (tk := s.toks) hm (Nat.le_refl _)) hacc)
variable {x : Str} {t : Tok} {Q : Value → Shared → Prop}
theorem join_lri (W : WalksS prog w A.in1.in1 I fp wr G n P St) (hT : ∀ i s, St i s → s.TypeIs (.ref I) "list_reverseiterator") (hst : St 0 s) (hfp : ∀ b ∈ fp, b < s.heap.objs.size) (hI : I ∈ fp)
    (hstr : ∀ i v, P i v → ∃ y u, v = Value.str y u)
    (hq : ∀ s' (l : List (Str × Tok)), Moved wr G s s' → ItemsOf P (strValues l).toArray n → JoinOk x (l.map (·.1)) = true ∧ ∀ t' k, Q (.str (Txt.join x (l.map (·.1))) t') { s' with toks := k }) (hn : n ≤ sizeLine) :
    wpAny (model prog w) A (call (.builtin "str.join") [.str x t, .ref I]) Q E s := by
  refine wpAny_call (codeAny_call_builtin F.slot_str_join.plain F.entry_str_join (F.slot_str_join.check _ _ _ _ _ _ _ _ (typeIs_str _ _ _) (F.args_str_join_2 _ _) ?_))
  rw [join_tree_other]
  refine wpAny_bind (wpAny_typeOf (hT 0 s hst) ?_)
  show wpAny _ A.in1 ((pyIter (.ref I)).tryCatch _ >>= fun it => collect it >>= fun items => joinTail x items) _ _ s
  refine wpAny_bind (wpAny_tryCatch (W.of_in1.self 0 s _ _ hst ?_))
  refine wpAny_bind (collect_lri W hT hst hfp hI (fun s' acc hm hacc => ?_) hn)
  obtain ⟨l, hl⟩ := exists_strValues acc.toList fun v hv => by
    obtain ⟨j, hj, rfl⟩ := Array.mem_iff_getElem.mp (Array.mem_toList_iff.mp hv)
    exact hstr j _ (hacc.2 j _ (Array.getElem?_eq_getElem hj))
  rw [← hl]
  have hacc' : ItemsOf P (strValues l).toArray n := by rw [hl]; simpa using hacc
  obtain ⟨hok, hpost⟩ := hq s' l hm hacc'
  unfold JoinOk at hok
  rw [Bool.not_eq_true'] at hok
  have g : Gives (joinTail x (strValues l)) (joinMade x l) := by
    have g0 := gives_joinTail x l hok
    cases l with
    | nil => exact g0
    | cons p r => cases r with
      | nil => exact g0
      | cons q r' => exact g0
  exact g prog w A (wants Q E) s' (post_join l ⟨joinFit_length hok, hpost⟩)
end
end PySem
namespace L2
open PySem PySem.Spec PyProof.Rows
theorem sum_len_rev (ys : List Str) : ((ys.reverse).map (·.length)).sum = (ys.map (·.length)).sum := by
  rw [List.map_reverse, List.sum_reverse]
theorem vals_back {xs : List V} {us : List Value} {i : Nat} {u : Value} (r : Vals xs us) (h : us[i]? = some u) : ∃ x, xs[i]? = some x ∧ RelV x u := by
  have hi : i < xs.length := by rw [r.length]; exact (List.getElem?_eq_some_iff.mp h).1
  have hx : xs[i]? = some xs[i] := by simp [hi]
  obtain ⟨u', e, rv⟩ := r.get hx
  rw [h] at e
  cases e
  exact ⟨_, hx, rv⟩
theorem boot_reversed' : bootBuiltins "reversed" = some (.type "reversed") := by decide +kernel
/-- sep.join(reversed(xs)), xs a list of texts -/
def tJoinRev (K : PySem.W.Frag) (to tx : TE) : TE := fun σ H Q => to σ H fun x H1 => ∃ sep : Str, x = .str sep ∧ tx σ H1 fun y H2 => ∃ (p : Addr) (ys : List Str), y = .ref p ∧ SqL K H2 p (ys.map V.str) ∧
  (ys.map (·.length)).sum + ys.length * sep.length ≤ 16777216 ∧ Q (.str (Txt.join sep ys.reverse)) H2
theorem pe_joinRev {X : Cx} {o e : Expr} {to tx : TE} {p apos cpos p2 : Pos} (hg : Gl X "reversed") (hm : X.mg "reversed" = none) (hcalm : X.calm = true) (ho : PE X o to) (hx : PE X e tx)
    (hbase : attributeBase o "join" X.env (eval o X.env) = eval o X.env := by rfl)
    (hfew : ((backTo cpos (starEach [.Call (.Name "reversed" p) [e] [] p2] X.env)).all (fun x => !x.1) && (backToKw cpos (keywordEach [] X.env)).all (fun x => x.1.isSome)
      && decide (([.Call (.Name "reversed" p) [e] [] p2] : List Expr).length + ([] : List Keyword).length + (if ([] : List Keyword).isEmpty then 0 else 1) < 30)) = true := by rfl)
    (hline : (apos.endLine == cpos.line) = true := by rfl) (hs : starEach [.Call (.Name "reversed" p) [e] [] p2] X.env = [(false, eval (.Call (.Name "reversed" p) [e] [] p2) X.env)] := by rfl)
    (hs2 : starEach [e] X.env = (false, eval e X.env) :: starEach [] X.env := by rfl) :
    PE X (.Call (.Attribute o "join" apos) [.Call (.Name "reversed" p) [e] [] p2] [] cpos) (tJoinRev X.K to tx) := by
  intro pins s σ H Q I h
  refine wpAny_Call_method_late hbase hfew hline rfl (thn (ho pins s σ H _ I h) fun v s1 ⟨x, H1, I1, r1, sep, ex, q1⟩ => ?_)
  subst ex
  obtain ⟨t, rfl⟩ := r1
  refine ⟨"str", "str.join", PySem.F.plainAttrs_str, PySem.F.slot_str_join, PySem.F.type_str_join, typeIs_str s1 sep t, (fun _ e => by cases e), ?_⟩
  rw [hs]
  refine Calls.callWith_builtin rfl (Calls.evalArgs_plain ?_)
  show wpAny _ _ (spliced ((false, eval (.Call (.Name "reversed" p) [e] [] p2) X.env) :: backTo cpos [])) _ _ s1
  refine Calls.spliced_cons ?_
  refine wpAny_Call_Name_kw (ld_blt I1 hg hm boot_reversed' ?_ (by decide) (by decide))
  refine PyProof.Rows.callWith_type1 (thn (pa_cons hx pa_nil hs2 p2 pins s1 σ H1 (fun vs H2 => match vs with
    | [y] => ∃ (p : Addr) (ys : List Str), y = .ref p ∧ SqL X.K H2 p (ys.map V.str) ∧ (ys.map (·.length)).sum + ys.length * sep.length ≤ 16777216 ∧ Q (.str (Txt.join sep ys.reverse)) H2
    | _ => False) I1 q1) fun us s2 ⟨vs, H2, I2, r2, q2⟩ => ?_) hs2 rfl
  match vs, r2, q2 with
  | [y], r2, q2 =>
  obtain ⟨l, ys, ey, hl, hz, q⟩ := q2
  cases r2 with
  | cons ra rn =>
    cases rn
    subst ey
    cases ra
    obtain ⟨its, r', pl, hzl⟩ := I2.list hl
    have hlen := r'.length
    refine call_reversed_list pl.isList ?_
    refine Calls.spliced_nil ?_
    have I3 : Inv X pins σ H2 { s2 with heap := s2.heap.push (revObj l ((its.toArray.size : Int) - 1)) } := I2.kept (t' := s2.toks) fun b u e => Heap.get?_push_of_some _ e
    have hlt : l < s2.heap.objs.size := by obtain ⟨ol, hol, _⟩ := pl.isList; exact Heap.lt_size hol
    have hne : l ≠ s2.heap.objs.size := Nat.ne_of_lt hlt
    have fp : ∀ b ∈ [s2.heap.objs.size], FpOk X pins H2 b := fun b hb => by
      rw [List.mem_singleton.mp hb]
      exact I2.fpOk (Nat.le_refl _) (I2.hok.fresh (Nat.le_refl _))
    have hsz : its.length ≤ sizeLine := by rw [← hlen]; exact hzl
    refine join_lri (A := X.A) (Walks.listRev (show X.A.in1.in1.handled = none from I2.ok.hd hcalm) s2.heap.objs.size l hne its.toArray).toS (fun i s' st => st.2.1.typeIs) (s := { s2 with heap := s2.heap.push (revObj l ((its.toArray.size : Int) - 1)) })
      ⟨Nat.zero_le _, ⟨_, Heap.get?_push_size _ rfl, rfl, by rw [show ((its.toArray.size : Int) - 1 - ((0 : Nat) : Int)) = (its.toArray.size : Int) - 1 by omega]; rfl⟩, pl.isList.at fun o e => Heap.get?_push_of_some _ e⟩
      (fun b hb => ?_) (by simp) (fun i v hv => ?_) (fun s' lt hm hi => ?_) (by simpa using hsz)
    · rw [Heap.size_push]
      rcases List.mem_cons.mp hb with e | e
      · rw [e]; exact Nat.lt_succ_self _
      · rw [List.mem_singleton.mp e]; exact Nat.lt_succ_of_lt hlt
    · have hv' : its[its.toArray.size - 1 - i]? = some v := by simpa using hv
      obtain ⟨z, hz', rz⟩ := vals_back r' hv'
      rw [List.getElem?_map] at hz'
      cases ey : ys[its.toArray.size - 1 - i]? with
      | none => rw [ey] at hz'; cases hz'
      | some y =>
        rw [ey] at hz'
        cases hz'
        obtain ⟨t', rfl⟩ := rz
        exact ⟨y, t', rfl⟩
    · have hys : lt.map (·.1) = ys.reverse := by
        have hn : lt.length = ys.length := by
          have := hi.1
          simp [strValues] at this
          rw [this, ← hlen, List.length_map]
        refine List.ext_getElem? fun j => ?_
        by_cases hj : j < ys.length
        · have hlj : lt[j]? = some lt[j] := by simp [hn, hj]
          have hv := hi.2 j (.str lt[j].1 lt[j].2) (by simp [strValues, hlj])
          have hv' : its[its.toArray.size - 1 - j]? = some (.str lt[j].1 lt[j].2) := by simpa using hv
          obtain ⟨z, hz', rz⟩ := vals_back r' hv'
          rw [List.getElem?_map] at hz'
          have hn2 : its.toArray.size - 1 - j = ys.length - 1 - j := by rw [List.size_toArray, ← hlen, List.length_map]
          rw [hn2] at hz'
          rw [List.getElem?_map, hlj, List.getElem?_reverse hj]
          cases ey : ys[ys.length - 1 - j]? with
          | none => rw [ey] at hz'; cases hz'
          | some y =>
            rw [ey] at hz'
            cases hz'
            obtain ⟨t', e'⟩ := rz
            cases e'
            rfl
        · rw [List.getElem?_eq_none (by rw [List.length_map]; omega), List.getElem?_eq_none (by rw [List.length_reverse]; omega)]
      refine ⟨joinOk_of (by rw [hys, sum_len_rev, List.length_reverse]; exact hz), fun t' k => ?_⟩
      rw [hys]
      obtain ⟨h', g', d', tk', o'⟩ := s'
      obtain rfl : g' = s2.gens := hm.gens
      obtain rfl : d' = s2.drawn := hm.drawn
      obtain rfl : o' = s2.os := hm.os
      exact ⟨.str _, H2, I3.turnedAll (t' := k) (ch := [s2.heap.objs.size]) fp (fun b u hb e => hm.heap b u hb e), ⟨_, rfl⟩, q⟩
end L2

set_option maxHeartbeats 4000000
namespace L2
open PySem PySem.Spec PyProof.Rows

/-! ### for k in d: the dict stands frozen from then on -/
theorem paired_at {α β : Type} {F : α → β → Prop} : ∀ {l₁ : List α} {l₂ : List β} {i : Nat} {a : α} {b : β}, Paired F l₁ l₂ → l₁[i]? = some a → l₂[i]? = some b → F a b
  | _, _, 0, _, _, .cons h _, e1, e2 => by cases e1; cases e2; exact h
  | _, _, i + 1, _, _, .cons _ r, e1, e2 => paired_at r e1 e2
  | _, _, _, _, _, .nil, e1, _ => by simp at e1
theorem rel_of_is {P : Program} {w : World} {k : Key} {u : Value} (h : (mixKind P w).is k u = true) : RelV (kV k) u := by
  rw [mixKind_is] at h
  cases k with
  | inl i =>
    have h' : Value.isInt i u = true := h
    cases u with
    | int j t =>
      have : j = i := by simpa [Value.isInt] using h'
      subst this
      exact ⟨t, rfl⟩
    | _ => cases h'
  | inr x =>
    have h' : Value.isStrOf x u = true := h
    cases u with
    | str y t =>
      have : y = x := by simpa [Value.isStrOf] using h'
      subst this
      exact ⟨t, rfl⟩
    | _ => cases h'
/-- o is the dict's object while it is walked -/
def Itd (a : Addr) (o : Obj) (kvs : List (Key × V)) : It :=
  ⟨fun i H => H a = some (.frz o (.dK kvs)) ∧ i < kvs.length, fun i H x H' => H' = H ∧ ∃ k v, kvs[i]? = some (k, v) ∧ x = kV k, fun i H => H a = some (.frz o (.dK kvs)) ∧ kvs.length ≤ i⟩
theorem turn_dict {P : Program} {w : World} {K : PySem.W.Frag} {tg : Expr} {a it : Addr} {o : Obj} {es : Array DictEntry} {ep : Nat} {kvs : List (Key × V)} (hod : o.data = .dict es ep) :
    Turn P w K tg (Itd a o kvs) [it] it (fun i h => h.IsKeyIter it a i kvs.length ep) where
  mem := by simp
  obj := fun i h st b hb => by
    have e : b = it := by simpa using hb
    subst e
    obtain ⟨ob, ho, _, hd⟩ := st
    exact ⟨ob, ho, fun v z => by rw [hd] at z; cases z⟩
  keep := fun i h h' st k => st.at fun o e => k it (by simp) o e
  item := by
    intro X hP hw hK hc i pins s σ H E I hf st hg
    subst hP hw hK
    obtain ⟨f0, f1, f2, f3, f4, f5⟩ := hf it (by simp)
    obtain ⟨hfz, hi⟩ := hg
    obtain ⟨ho, hz, hsm, vs, rk, od, es', ep', ho', hex, hdd, hk, hp, hn⟩ := I.hok a _ hfz
    rw [ho] at ho'
    cases ho'
    rw [hod] at hdd
    cases hdd
    have hl : vs.length = kvs.length := (Paired.length rk).symm
    have hm : s.heap.DictAt (mixKind X.prog X.w) a vs ep := ⟨o, es, ho, hex, hod, hk, hp, hn⟩
    have hx : vs[i]? = some vs[i] := by simp [hl, hi]
    have hkv : kvs[i]? = some kvs[i] := by simp [hi]
    have hrel := paired_at rk hkv hx
    rw [← hl] at st
    refine wpAny_pyNext_dict_item (k := vs[i].1) (v := vs[i].2) st hm hx fun key h' hkey hit' hs' => ?_
    have I1 : Inv X pins σ H { s with heap := h', toks := s.toks } := I.turned (t' := s.toks) (fun b ob hb e => hs'.extBut b ob (by simpa using hb) e) f0 f1 f3 f4 f5
    rw [hl] at hit'
    obtain ⟨oi, hoi, hci, hdi⟩ := id hit'
    refine ⟨_, rfl, go_of (s := { s with heap := h', toks := s.toks }) (n := "dict_keyiterator") hoi hci hdi (by decide) ⟨kV kvs[i].1, H, I1, ?_, ⟨rfl, kvs[i].1, kvs[i].2, hkv, rfl⟩, hit', fun b hb => (hf b hb).1⟩⟩
    rw [hrel.1]
    exact rel_of_is hkey
  done := by
    intro X hP hw hK hc i pins s σ H E I hf st hg
    subst hP hw hK
    obtain ⟨f0, f1, f2, f3, f4, f5⟩ := hf it (by simp)
    obtain ⟨hfz, hi⟩ := hg
    obtain ⟨ho, hz, hsm, vs, rk, od, es', ep', ho', hex, hdd, hk, hp, hn⟩ := I.hok a _ hfz
    rw [ho] at ho'
    cases ho'
    rw [hod] at hdd
    cases hdd
    have hl : vs.length = kvs.length := (Paired.length rk).symm
    have hm : s.heap.DictAt (mixKind X.prog X.w) a vs ep := ⟨o, es, ho, hex, hod, hk, hp, hn⟩
    rw [← hl] at st
    exact wpAny_pyNext_dict_end (I.ok.hd hc) st hm (by rw [List.getElem?_eq_none]; omega) fun h' eb => ⟨rfl, I.turned (t' := s.toks) (fun b ob hb e => eb b ob hb e) f0 f1 f3 f4 f5⟩
  self := fun _ _ _ _ _ st h => wpAny_pyIter_keyiter st h
/-- d an expression whose value is a dict with keys ints and texts -/
def iDict (tl : TE) : TI := fun σ H R => tl σ H fun x H1 => ∃ a kvs, x = .ref a ∧ H1 a = some (.dK kvs) ∧ ∀ o, R (Itd a o kvs) (upd H1 a (.frz o (.dK kvs)))
theorem pi_dict {X : Cx} {tg l : Expr} {tl : TE} (hl : PE X l tl) : PI X tg l (iDict tl) := by
  intro pins s σ H R I h
  refine thn (hl pins s σ H _ I h) fun v s1 ⟨x, H1, I1, r1, q1⟩ => ?_
  obtain ⟨a, kvs, e, ha, q⟩ := q1
  subst e
  cases r1
  obtain ⟨hz, hsm, vs, rk, hd⟩ := dk_of I1.hok ha
  obtain ⟨o, es, ep, ho, hex, hdd, hk, hp, hn⟩ := id hd
  have hlen : vs.length = kvs.length := (Paired.length rk).symm
  refine wpAny_pyIter_dict hsm ⟨o, es, ho, hex, hdd, hk, hp, hn⟩ ?_
  have I2 : Inv X pins σ (upd H1 a (.frz o (.dK kvs))) { s1 with heap := s1.heap.push { cls := .type "dict_keyiterator", data := .fields #[.ref a, .int 0 0, .int vs.length 0, .int ep 0] } } :=
    I1.write (x := a) (e := a) (t' := s1.toks) (by rw [ha]; trivial) (.inl rfl) (fun b u _ e => Heap.get?_push_of_some _ e) ⟨o, Heap.get?_push_of_some _ ho⟩
      ⟨Heap.get?_push_of_some _ ho, hz, hsm, vs, rk, o, es, ep, Heap.get?_push_of_some _ ho, hex, hdd, hk, hp, hn⟩
  refine ⟨s1.heap.objs.size, [s1.heap.objs.size], _, _, _, rfl, I2, turn_dict hdd, ⟨_, Heap.get?_push_size _ rfl, rfl, by rw [hlen]; rfl⟩, fun b hb => ?_, q o⟩
  have e : b = s1.heap.objs.size := by simpa using hb
  subst e
  have hf := I1.hok.fresh (Nat.le_refl s1.heap.objs.size)
  exact I1.fpOk (Nat.le_refl _) (by rw [upd_ne (fun z => by rw [z, ha] at hf; cases hf)]; exact hf)
theorem for_dict {a : Addr} {o : Obj} {kvs : List (Key × V)} {g : TG} {tb : TS} {D : Ends} {σ : St} {H : Hp} (Pv : Nat → St → Hp → Prop) (h0 : Pv 0 σ H) (hl : ∀ i σ H, i ≤ kvs.length → Pv i σ H → H a = some (.frz o (.dK kvs)))
    (hs : ∀ i k v σ H, kvs[i]? = some (k, v) → Pv i σ H → g (kV k) σ H fun σ2 H2 => tb { D with nx := Pv (i + 1), ct := Pv (i + 1), bk := D.nx } σ2 H2) (hd : ∀ σ H, Pv kvs.length σ H → D.nx σ H) :
    ∃ W : Nat → Nat → St → Hp → Prop, (∃ m, W 0 m σ H) ∧ ∀ i m σ H, W i m σ H →
      ((Itd a o kvs).stop i H ∧ D.nx σ H) ∨ ((Itd a o kvs).go i H ∧ ∃ N : St → Hp → Prop, (∀ σ' H', N σ' H' → ∃ m', m' < m ∧ W (i + 1) m' σ' H') ∧ ∀ v H', (Itd a o kvs).yld i H v H' → g v σ H' fun σ2 H2 => tb { D with nx := N, ct := N, bk := D.nx } σ2 H2) := by
  refine ⟨fun i m σ H => m = kvs.length - i ∧ i ≤ kvs.length ∧ Pv i σ H, ⟨kvs.length, by simp, Nat.zero_le _, h0⟩, ?_⟩
  rintro i m σ H ⟨rfl, hi, p⟩
  by_cases hlt : i < kvs.length
  · refine .inr ⟨⟨hl i σ H hi p, hlt⟩, Pv (i + 1), fun σ' H' p' => ⟨kvs.length - (i + 1), by omega, rfl, hlt, p'⟩, fun v H' y => ?_⟩
    obtain ⟨e, k, u, hk, rfl⟩ := y
    subst e
    exact hs i k u σ _ hk p
  · have e : i = kvs.length := by omega
    subst e
    exact .inl ⟨⟨hl _ σ H hi p, Nat.le_refl _⟩, hd σ H p⟩
end L2

namespace Hs
/-! ### rooms come to -/
def Reach (hs : List Rm) (p : Nat) : Prop := ∃ w, led hs 0 w = p
theorem Reach.zero (hs : List Rm) : Reach hs 0 := ⟨[], rfl⟩
theorem Reach.step {hs : List Rm} {p : Nat} (h : Reach hs p) (b : Bool) : Reach hs (stp hs p b) := by
  obtain ⟨w, rfl⟩ := h
  exact ⟨w ++ [b], led_snoc hs 0 w b⟩
/-- what holds of room nought and goes on through every exit holds of every room come to -/
theorem Reach.closed {hs : List Rm} {C : Nat → Prop} (h0 : C 0) (hs' : ∀ p b, C p → C (stp hs p b)) : ∀ {p}, Reach hs p → C p := by
  rintro p ⟨w, rfl⟩
  have : ∀ (w : List Bool) (i : Nat), C i → C (led hs i w) := by
    intro w
    induction w with
    | nil => intro i h; exact h
    | cons b w ih => intro i h; exact ih _ (hs' i b h)
  exact this w 0 h0
/-! ### exploring: the places met, each with the place ahead and the turn -/
abbrev Ent := Nat × Option (Nat × Bool)
structure Expl (hs : List Rm) (es : List Ent) (k : Nat) : Prop where
  first : es[0]? = some (0, none)
  nd : (es.map (·.1)).Nodup
  lt : ∀ e ∈ es, e.1 < hs.length
  par : ∀ (i : Nat) p q b, es[i]? = some (p, some (q, b)) → ∃ (j : Nat) (v : Option (Nat × Bool)), j < i ∧ es[j]? = some (q, v) ∧ stp hs q b = p
  only : ∀ (i : Nat) p, es[i]? = some (p, none) → p = 0
  done : ∀ (i : Nat) (e : Ent), i < k → es[i]? = some e → ∀ b, stp hs e.1 b ∈ es.map (·.1)
  le : k ≤ es.length
theorem Expl.start {hs : List Rm} (w : Wf hs) : Expl hs [(0, none)] 0 where
  first := rfl
  nd := by simp
  lt := fun e he => by rw [List.mem_singleton.mp he]; exact w.ne
  par := fun i p q b e => by
    match i, e with
    | 0, e => cases e
    | i + 1, e => simp at e
  only := fun i p e => by
    match i, e with
    | 0, e => cases e; rfl
    | i + 1, e => simp at e
  done := fun i e h => by omega
  le := Nat.zero_le _
theorem nodup_lt : ∀ (n : Nat) (l : List Nat), l.Nodup → (∀ x ∈ l, x < n) → l.length ≤ n
  | 0, l, _, h => by
    cases l with
    | nil => exact Nat.le_refl _
    | cons a l => exact absurd (h a (List.mem_cons_self ..)) (by omega)
  | n + 1, l, hn, h => by
    have ih := nodup_lt n (l.filter (· ≠ n)) (hn.sublist List.filter_sublist) fun x hx => by
      obtain ⟨h1, h2⟩ := List.mem_filter.mp hx
      have := h x h1
      have h2' : x ≠ n := by simpa using h2
      omega
    have h2 : l.length ≤ (l.filter (· ≠ n)).length + 1 := by
      by_cases hm : n ∈ l
      · have := List.length_erase_of_mem hm
        have e := hn.erase_eq_filter n
        have e2 : (l.filter (· != n)).length = l.length - 1 := by rw [← e]; exact this
        have e3 : (l.filter (· ≠ n)) = (l.filter (· != n)) := by
          congr
          funext x
          by_cases hx : x = n <;> simp [bne, hx]
        rw [e3]
        omega
      · have : l.filter (· ≠ n) = l := List.filter_eq_self.mpr fun x hx => by
          have : x ≠ n := fun z => hm (z ▸ hx)
          simpa using this
        rw [this]
        omega
    omega
theorem Expl.length {hs : List Rm} {es : List Ent} {k : Nat} (h : Expl hs es k) : es.length ≤ hs.length := by
  have := nodup_lt hs.length (es.map (·.1)) h.nd fun x hx => by
    obtain ⟨e, he, rfl⟩ := List.mem_map.mp hx
    exact h.lt e he
  rwa [List.length_map] at this
theorem Expl.pos {hs : List Rm} {es : List Ent} {k : Nat} (h : Expl hs es k) : 0 < es.length := (List.getElem?_eq_some_iff.mp h.first).1
/-- the place k has been looked at up to some of its exits; a new one is met -/
theorem Expl.add {hs : List Rm} {es : List Ent} {k : Nat} (h : Expl hs es k) {i p q : Nat} {b : Bool} {v : Option (Nat × Bool)} (hi : es[i]? = some (q, v)) (hp : stp hs q b = p) (hl : p < hs.length) (hn : p ∉ es.map (·.1)) : Expl hs (es ++ [(p, some (q, b))]) k where
  first := by rw [List.getElem?_append_left h.pos]; exact h.first
  nd := by
    rw [List.map_append, List.nodup_append]
    refine ⟨h.nd, by simp, fun x hx y hy => ?_⟩
    have : y = p := by simpa using hy
    rw [this]
    exact fun z => hn (z ▸ hx)
  lt := fun e he => by
    rcases List.mem_append.mp he with he | he
    · exact h.lt e he
    · rw [List.mem_singleton.mp he]; exact hl
  par := fun j p' q' b' e => by
    by_cases hj : j < es.length
    · rw [List.getElem?_append_left hj] at e
      obtain ⟨j', v', h1, h2, h3⟩ := h.par j p' q' b' e
      exact ⟨j', v', h1, by rw [List.getElem?_append_left (by omega)]; exact h2, h3⟩
    · rw [List.getElem?_append_right (by omega)] at e
      have h0 : j - es.length = 0 := by
        have := (List.getElem?_eq_some_iff.mp e).1
        simp at this
        exact this
      rw [h0] at e
      simp at e
      obtain ⟨rfl, rfl, rfl⟩ := e
      have hil : i < es.length := (List.getElem?_eq_some_iff.mp hi).1
      exact ⟨i, v, by omega, by rw [List.getElem?_append_left hil]; exact hi, hp⟩
  only := fun j p' e => by
    by_cases hj : j < es.length
    · rw [List.getElem?_append_left hj] at e
      exact h.only j p' e
    · rw [List.getElem?_append_right (by omega)] at e
      have h0 : j - es.length = 0 := by
        have := (List.getElem?_eq_some_iff.mp e).1
        simp at this
        exact this
      rw [h0] at e
      simp at e
  done := fun j e hj he b' => by
    have hjl : j < es.length := Nat.lt_of_lt_of_le hj h.le
    rw [List.getElem?_append_left hjl] at he
    rw [List.map_append]
    exact List.mem_append_left _ (h.done j e hj he b')
  le := by rw [List.length_append]; exact Nat.le_trans h.le (Nat.le_add_right _ _)
theorem Expl.next {hs : List Rm} {es : List Ent} {k : Nat} (h : Expl hs es k) {e : Ent} (he : es[k]? = some e) (hb : ∀ b, stp hs e.1 b ∈ es.map (·.1)) : Expl hs es (k + 1) :=
  { h with
    done := fun i e' hi he' b => by
      by_cases hk : i < k
      · exact h.done i e' hk he' b
      · have : i = k := by omega
        subst this
        rw [he] at he'
        cases he'
        exact hb b
    le := (List.getElem?_eq_some_iff.mp he).1 }
theorem Expl.all {hs : List Rm} {es : List Ent} (h : Expl hs es es.length) (p : Nat) : Reach hs p ↔ p ∈ es.map (·.1) := by
  constructor
  · refine Reach.closed (C := fun p => p ∈ es.map (·.1)) ?_ ?_
    · exact List.mem_map.mpr ⟨_, List.mem_of_getElem? h.first, rfl⟩
    · intro p b hp
      obtain ⟨e, he, rfl⟩ := List.mem_map.mp hp
      obtain ⟨i, hi⟩ := List.getElem?_of_mem he
      exact h.done i e (List.getElem?_eq_some_iff.mp hi).1 hi b
  · intro hp
    obtain ⟨e, he, rfl⟩ := List.mem_map.mp hp
    obtain ⟨i, hi⟩ := List.getElem?_of_mem he
    have : ∀ (n i : Nat) (e : Ent), i ≤ n → es[i]? = some e → Reach hs e.1 := by
      intro n
      induction n with
      | zero =>
        intro i e hi he
        obtain rfl : i = 0 := by omega
        rw [h.first] at he
        cases he
        exact Reach.zero hs
      | succ n ih =>
        intro i e hi he
        obtain ⟨p, v⟩ := e
        cases v with
        | none =>
          have := h.only i p he
          rw [this]
          exact Reach.zero hs
        | some qb =>
          obtain ⟨q, b⟩ := qb
          obtain ⟨j, v', hj, hjq, hst⟩ := h.par i p q b he
          have := ih j (q, v') (by omega) hjq
          show Reach hs p
          rw [← hst]
          exact this.step b
    exact this i i e (Nat.le_refl _) hi
/-! ### marks -/
structure Marked (hs : List Rm) (ms : List Bool) (td : List Nat) (open' : Nat → Bool → Prop) : Prop where
  len : ms.length = hs.length
  zero : ms[0]? = some true
  rch : ∀ p, ms[p]? = some true → Reach hs p
  inT : ∀ p ∈ td, ms[p]? = some true
  clo : ∀ p, ms[p]? = some true → p ∈ td ∨ ∀ b, open' p b ∨ ms[stp hs p b]? = some true
/-- unmarked rooms -/
def unm (ms : List Bool) : Nat := (ms.filter (!·)).length
theorem unm_set : ∀ {ms : List Bool} {p : Nat}, ms[p]? = some false → unm (ms.set p true) + 1 = unm ms
  | [], p, h => by simp at h
  | b :: ms, 0, h => by
    have : b = false := by simpa using h
    subst this
    simp [unm]
  | b :: ms, p + 1, h => by
    have ih := unm_set (ms := ms) (p := p) (by simpa using h)
    unfold unm at ih ⊢
    cases b <;> simp at ih ⊢ <;> omega
theorem Marked.end {hs : List Rm} {ms : List Bool} (h : Marked hs ms [] (fun _ _ => False)) (p : Nat) : ms[p]? = some true ↔ Reach hs p := by
  refine ⟨h.rch p, Reach.closed (C := fun p => ms[p]? = some true) h.zero fun p b hp => ?_⟩
  rcases h.clo p hp with z | z
  · simp at z
  · exact (z b).resolve_left id
end Hs

set_option maxHeartbeats 4000000
namespace L2
open PySem PySem.Spec PyProof.Rows

/-! ### many cells frozen at once -/
def put (H F : Hp) (cs : List Addr) : Hp := fun b => if b ∈ cs then F b else H b
def noH : Hp := fun _ => none
theorem put_in {H F : Hp} {cs : List Addr} {b : Addr} (h : b ∈ cs) : put H F cs b = F b := if_pos h
theorem put_out {H F : Hp} {cs : List Addr} {b : Addr} (h : b ∉ cs) : put H F cs b = H b := if_neg h
theorem put_no {H : Hp} {cs : List Addr} {b : Addr} {u : HO} (h : put H noH cs b = some u) : b ∉ cs ∧ H b = some u := by
  by_cases hb : b ∈ cs
  · rw [put_in hb] at h; cases h
  · rw [put_out hb] at h; exact ⟨hb, h⟩
theorem put_noin {H : Hp} {cs : List Addr} {b : Addr} (h : b ∈ cs) : put H noH cs b = none := put_in h
section
variable {P : Program} {w : World} {H F : Hp} {h : Heap} {cs : List Addr}
theorem hok_put (k : HOk P w H h) (hn : ∀ c ∈ cs, H c = none) (hF : ∀ c ∈ cs, ∃ o, F c = some (frzC c o) ∧ h.get? c = some o) : HOk P w (put H F cs) h := fun b u q => by
  by_cases hb : b ∈ cs
  · rw [put_in hb] at q
    obtain ⟨o, e1, e2⟩ := hF b hb
    rw [e1] at q
    cases q
    exact frzC_ok e2
  · rw [put_out hb] at q
    have ne : ∀ {d : Addr} {x : HO}, H d = some x → d ∉ cs := fun e z => by rw [hn _ z] at e; cases e
    exact (k b u q).stay (fun _ _ _ z => z) (fun d z => by rw [put_out (ne z)]; exact z) fun d xs z => by rw [put_out (ne z)]; exact z
theorem hok_out (k : HOk P w H h) (hF : ∀ c ∈ cs, ∃ o, H c = some (frzC c o)) : HOk P w (put H noH cs) h := fun b u q => by
  obtain ⟨hb, q⟩ := put_no q
  have ne1 : ∀ {d x : Addr}, H d = some (.own x) → d ∉ cs := fun e z => by obtain ⟨o, e'⟩ := hF _ z; rw [e'] at e; cases e
  have ne2 : ∀ {d : Addr} {xs : List V}, H d = some (.tup xs) → d ∉ cs := fun e z => by obtain ⟨o, e'⟩ := hF _ z; rw [e'] at e; cases e
  exact (k b u q).stay (fun _ _ _ z => z) (fun d z => by rw [put_out (ne1 z)]; exact z) fun d xs z => by rw [put_out (ne2 z)]; exact z
end
/-- a slot of this frame whose name has the cell p.2 -/
def CellAt (X : Cx) (p : Nat × Addr) : Prop := ∃ y, X.N[p.1]? = some y ∧ Vis X.env.scope y ∧ (X.env.kindOf y = some .cell ∨ X.env.kindOf y = some .free) ∧ X.env.cells.lookup y = some p.2 ∧ (X.fn y = true ∨ (X.base.get? p.2 = none ∧ p.2 ∉ frs X.outer))
section
variable {X : Cx} {pins : List (Addr × Obj)} {σ : St} {H : Hp} {s s' : Shared} {sl : List (Nat × Addr)}
theorem Inv.frozen (I : Inv X pins σ H s) (hsl : ∀ p ∈ sl, CellAt X p) :
    ∃ F : Hp, (∀ c ∈ sl.map (·.2), ∃ o, F c = some (frzC c o) ∧ s.heap.get? c = some o) ∧ (∀ p ∈ sl, ∀ v, σ[p.1]? = some (some v) → CellIs F p.2 v) ∧
      (∀ c ∈ sl.map (·.2), H c = none ∧ c ∉ frs X.stack ∧ X.base.get? c = none) ∧ Env0 X.prog X.w X.K X.mg X.base X.A X.stack s (put H F (sl.map (·.2))) := by
  let F : Hp := fun b => match s.heap.get? b with | some o => some (frzC b o) | none => none
  have hF : ∀ {b : Addr} {o : Obj}, s.heap.get? b = some o → F b = some (frzC b o) := fun {b o} e => by
    show (match s.heap.get? b with | some o => some (frzC b o) | none => none) = _
    rw [e]
  have facts : ∀ c ∈ sl.map (·.2), H c = none ∧ c ∉ frs X.stack ∧ X.base.get? c = none ∧ ∃ o, s.heap.get? c = some o := fun c hc => by
    obtain ⟨p, hp, rfl⟩ := List.mem_map.mp hc
    obtain ⟨y, h1, h2, h3, h4, h5⟩ := hsl p hp
    obtain ⟨val, o, e1, e2⟩ := I.cell y p.2 h4
    refine ⟨I.freeC y p.2 h4, fun z => ?_, ?_, o, e1⟩
    · rcases List.mem_cons.mp (I.stkSub p.2 z) with z | z
      · exact I.cne y p.2 h4 z
      · rcases h5 with h5 | h5
        · obtain ⟨_, o', ho', _⟩ := I.ok.funs.mem z
          exact Nat.lt_irrefl _ (Nat.lt_of_lt_of_le (Heap.lt_size ho') (I.ok.cab y p.2 h5 h4))
        · exact h5.2 z
    · rcases h5 with h5 | h5
      · exact Heap.get?_none_of_le (Nat.le_trans I.ok.bsz (I.ok.cab y p.2 h5 h4))
      · exact h5.1
  have hFz : ∀ c ∈ sl.map (·.2), ∃ o, F c = some (frzC c o) ∧ s.heap.get? c = some o := fun c hc => by
    obtain ⟨_, _, _, o, ho⟩ := facts c hc
    exact ⟨o, hF ho, ho⟩
  refine ⟨F, hFz, fun p hp v hv => ?_, fun c hc => let ⟨a, b, d, _⟩ := facts c hc; ⟨a, b, d⟩, ?_⟩
  · obtain ⟨y, h1, h2, h3, h4, h5⟩ := hsl p hp
    obtain ⟨m, hn, hl⟩ := I.loc
    obtain ⟨u, ru, lk⟩ := hl p.1 y v h1 hv h2
    have hic : s.heap.IsCell p.2 (some u) := by
      rcases lk with ⟨z, _⟩ | ⟨_, c', e', z⟩
      · rcases h3 with h3 | h3 <;> (rw [h3] at z; cases z)
      · rw [h4] at e'; cases e'; exact z
    obtain ⟨o, ho, hod⟩ := hic
    exact ⟨o, u, hF ho, ru, hod⟩
  · have e0 := I.env0
    refine ⟨e0.frames, e0.mod, fun b o' eb => ⟨(e0.bs b o' eb).1, ?_⟩, e0.bsz, e0.funs, fun b hb' => ?_, hok_put e0.hok (fun c hc => (facts c hc).1) hFz, e0.bare⟩
    · have hbc : b ∉ sl.map (·.2) := fun z => by have := (facts b z).2.2.1; rw [this] at eb; cases eb
      rw [put_out hbc]; exact (e0.bs b o' eb).2
    · have hbc : b ∉ sl.map (·.2) := fun z => (facts b z).2.1 hb'
      rw [put_out hbc]; exact e0.frf b hb'
theorem Inv.afterCs {F : Hp} {Q : VK} {u : Value} (I : Inv X pins σ H s) (hF : ∀ c ∈ sl.map (·.2), ∃ o, F c = some (frzC c o) ∧ s.heap.get? c = some o) (hn : ∀ c ∈ sl.map (·.2), H c = none ∧ c ∉ frs X.stack ∧ X.base.get? c = none)
    (h : CE X.stack X.prog X.w (put H F (sl.map (·.2))) s (fun v H' => Q v (put H' noH (sl.map (·.2)))) u s') : EP X pins σ Q u s' := by
  obtain ⟨v', H', os, bare, un, hok', r', q'⟩ := h
  have hf : ∀ c ∈ sl.map (·.2), ∃ o, H' c = some (frzC c o) ∧ s.heap.get? c = some o ∧ s'.heap.get? c = some o := fun c hc => by
    obtain ⟨o, e1, e2⟩ := hF c hc
    have e3 := un.frzs c o _ (by rw [put_in hc]; exact e1)
    exact ⟨o, e3, e2, (hok' c _ e3).1⟩
  refine ⟨v', put H' noH (sl.map (·.2)), I.call' (ch := []) os ⟨fun b ob e2 n1 hb' hx => ?_, fun b ob e2 n1 hb' hx => ?_, fun b ob e2 n1 hx => ?_, fun b ob e2 hx => un.there b ob e2 hx, fun b xs e2 => ?_, fun b ob u e2 => ?_, fun b ps' e2 => ?_⟩ (hok_out hok' fun c hc => let ⟨o, a, _⟩ := hf c hc; ⟨o, a⟩) bare (fun b z => absurd z (by simp)), r', q'⟩
  · by_cases hbc : b ∈ sl.map (·.2)
    · obtain ⟨o, _, e3, e4⟩ := hf b hbc
      rw [e3] at e2; cases e2
      exact e4
    · exact un.keep b ob e2 (by rw [put_out hbc]; exact n1) hb' hx
  · have hbc : b ∉ sl.map (·.2) := fun z => (hn b z).2.1 hb'
    exact un.slot b ob e2 (by rw [put_out hbc]; exact n1) hb' hx
  · by_cases hbc : b ∈ sl.map (·.2)
    · exact put_noin hbc
    · rw [put_out hbc]
      exact un.free b ob e2 (by rw [put_out hbc]; exact n1) hx
  · have hbc : b ∉ sl.map (·.2) := fun z => by rw [(hn b z).1] at e2; cases e2
    rw [put_out hbc]
    exact un.tups b xs (by rw [put_out hbc]; exact e2)
  · have hbc : b ∉ sl.map (·.2) := fun z => by rw [(hn b z).1] at e2; cases e2
    rw [put_out hbc]
    exact un.frzs b ob u (by rw [put_out hbc]; exact e2)
  · have hbc : b ∉ sl.map (·.2) := fun z => by rw [(hn b z).1] at e2; cases e2
    obtain ⟨more, e3⟩ := un.tbls b ps' (by rw [put_out hbc]; exact e2)
    exact ⟨more, by rw [put_out hbc]; exact e3⟩
end
/-- f(e, ..) where the cells sl of this frame are frozen while f runs -/
def tCallCs (sl : List (Nat × Addr)) (sp : Sp) (E : XK) (t : TA) : TE := fun σ H Q => t σ H fun vs H1 => ∀ F : Hp, (∀ c ∈ sl.map (·.2), H1 c = none ∧ ∃ o, F c = some (frzC c o)) → (∀ p ∈ sl, ∀ v, σ[p.1]? = some (some v) → CellIs F p.2 v) →
  sp vs (put H1 F (sl.map (·.2))) (fun v' H' => Q v' (put H' noH (sl.map (·.2)))) E
theorem pe_callCs {X : Cx} {k : Nat} {f : Addr} {fd : FuncData} {ps : List Str} {sp : Sp} {E : XK} {x : Str} {p pos : Pos} {e : Expr} {es : List Expr} {t : TA} {sl : List (Nat × Addr)}
    (F : FnOk X.prog X.w X.K X.mg X.base CX0 k f fd ps sp) (hr : Room k X.A) (hg : Gl X x) (hm : X.mg x = some (.ref f)) (hk : PySem.W.keepIn X.K (.ref f) = true) (hb : Binds X.K fd ps [])
    (hsl : ∀ p ∈ sl, CellAt X p) (ha : PA X (e :: es) t) (hdb : (x == ("__debug__" : Str)) = false := by decide) (he : starEach (e :: es) X.env = (false, eval e X.env) :: starEach es X.env := by rfl) (hpl : (backTo pos (starEach es X.env)).any (·.1) = false := by rfl) :
    PE X (.Call (.Name x p) (e :: es) [] pos) (tCallCs sl sp E t) := by
  intro pins s σ H Q I h
  refine wpAny_Call_Name_kw (ld_glob I hg hm ?_ hdb)
  refine PySem.W.callWith_K (h₀ := X.base) I.ok.mod.kin hk (thn (ha pos pins s σ H _ I h) fun us s1 ⟨vs, H1, I1, r, q⟩ => ⟨I1.kIn, ?_⟩) he hpl
  obtain ⟨Fz, hF, hFv, hn, e1⟩ := I1.frozen hsl
  have q := q Fz (fun c hc => ⟨(hn c hc).1, let ⟨o, z, _⟩ := hF c hc; ⟨o, z⟩⟩) hFv
  have hl' : us.length = ps.length := by rw [← r.length]; exact F.len _ _ _ _ q
  have hbb := hb s1 us I1.kIn (by rw [List.append_nil]; exact hl')
  rw [List.append_nil] at hbb
  refine wpAny_call (codeAny_mono (F.run X.A X.stack s1 _ ⟨us, []⟩ us vs _ E hr e1 hbb r q) fun r s' hq => ?_)
  cases r with
  | error e => exact False.elim hq
  | ok fl =>
    cases fl with
    | next => exact False.elim hq
    | brk => exact False.elim hq
    | cont => exact False.elim hq
    | ret u' => exact I1.afterCs hF hn hq
/-- the same of a function that is a value -/
def tCallVs (P : Program) (w : World) (K : PySem.W.Frag) (mg : Str → Option Value) (base : Heap) (k i : Nat) (sl : List (Nat × Addr)) (t : TA) : TE := fun σ H Q => ∃ f, σ[i]? = some (some (.ref f)) ∧ t σ H fun vs H1 => ∃ R sp, FvOk P w K mg base k f R sp ∧
  ∀ F : Hp, (∀ c ∈ sl.map (·.2), H1 c = none ∧ ∃ o, F c = some (frzC c o)) → (∀ p ∈ sl, ∀ v, σ[p.1]? = some (some v) → CellIs F p.2 v) →
  R (put H1 F (sl.map (·.2))) ∧ sp vs (put H1 F (sl.map (·.2))) (fun v' H' => Q v' (put H' noH (sl.map (·.2)))) fun _ _ _ => False

/-! ### tables of code: several functions made by one def -/
def Tab (H : Hp) (P : Addr) (qs : Nat → Nat → Option Str) : Prop := ∃ ps, H P = some (.tbl ps) ∧ TriplesOk ps.toList ∧ ∀ pos c, codeAmong pos ps.toList = some c → ∃ c' q, c = .ref c' ∧ qs pos.line pos.col = some q ∧ H c' = some (.ext (RecAt c' q))
theorem Tab.start {H : Hp} {P : Addr} {qs : Nat → Nat → Option Str} (h : H P = some (.tbl #[])) : Tab H P qs := ⟨#[], h, trivial, fun pos c e => by cases e⟩
theorem Tab.keep {H H' : Hp} {P : Addr} {qs : Nat → Nat → Option Str} (h : Tab H P qs) (s : ∀ b u, H b = some u → H' b = some u) : Tab H' P qs := by
  obtain ⟨ps, h1, h2, h3⟩ := h
  exact ⟨ps, s _ _ h1, h2, fun pos c e => let ⟨c', q, a, b, d⟩ := h3 pos c e; ⟨c', q, a, b, s _ _ d⟩⟩
theorem Tab.other {H H' : Hp} {P P' : Addr} {qs : Nat → Nat → Option Str} (h : Tab H P qs) (n : P ≠ P') (ht : ∃ ps, H P' = some (.tbl ps)) (s : SameT P' H H') : Tab H' P qs := by
  obtain ⟨ps, h1, h2, h3⟩ := h
  obtain ⟨ps', ht⟩ := ht
  exact ⟨ps, s _ _ n h1, h2, fun pos c e => let ⟨c', q, a, b, d⟩ := h3 pos c e; ⟨c', q, a, b, s _ _ (fun z => by rw [z, ht] at d; cases d) d⟩⟩
theorem among_snoc2 {pos p : Pos} {c x : Value} (l : List Value) (h : TriplesOk l) (hx : codeAmong pos (l ++ [rawInt p.line, rawInt p.col, c]) = some x) : codeAmong pos l = some x ∨ (x = c ∧ pos.line = p.line ∧ pos.col = p.col) := by
  fun_induction TriplesOk l with
  | case1 =>
    simp only [List.nil_append, codeAmong, rawInt] at hx
    split at hx
    · rename_i hc
      simp at hc
      exact .inr ⟨(Option.some.inj hx).symm, by omega, by omega⟩
    · cases hx
  | case2 a t b u y rest ih =>
    simp only [List.cons_append, codeAmong] at hx ⊢
    split at hx
    · rename_i hc
      rw [if_pos hc]
      exact .inl hx
    · rename_i hc
      rw [if_neg hc]
      exact ih h hx
  | case3 => exact False.elim h
/-- everything but the tables stays -/
def SamT (H H' : Hp) : Prop := ∀ b u, H b = some u → (∀ ps, u ≠ .tbl ps) → H' b = some u
theorem SamT.refl (H : Hp) : SamT H H := fun _ _ h _ => h
theorem SamT.trans {H1 H2 H3 : Hp} (a : SamT H1 H2) (b : SamT H2 H3) : SamT H1 H3 := fun x u e n => b x u (a x u e n) n
theorem Same.toSam {H1 H2 : Hp} (a : Same H1 H2) : SamT H1 H2 := fun x u e _ => a x u e
theorem SameT.toSam {P : Addr} {H1 H2 : Hp} (a : SameT P H1 H2) (t : ∃ ps, H1 P = some (.tbl ps)) : SamT H1 H2 := fun x u e n => a x u (fun z => by obtain ⟨ps, t⟩ := t; rw [z, t] at e; exact n ps (Option.some.inj e).symm) e
/-- the tables of all defs of the text that make functions -/
abbrev Tbs := List (Addr × (Nat → Nat → Option Str))
def TB (tabs : Tbs) (H : Hp) : Prop := ∀ t ∈ tabs, Tab H t.1 t.2
theorem TB.same {tabs : Tbs} {H H' : Hp} (h : TB tabs H) (s : Same H H') : TB tabs H' := fun t ht => (h t ht).keep s
theorem TB.grown {tabs : Tbs} {H H' : Hp} {t : Addr × (Nat → Nat → Option Str)} (h : TB tabs H) (nd : (tabs.map (·.1)).Nodup) (ht : t ∈ tabs) (s : SameT t.1 H H') (n : Tab H' t.1 t.2) : TB tabs H' := fun t' ht' => by
  by_cases e : t'.1 = t.1
  · have : t' = t := by
      clear s n h
      induction tabs with
      | nil => cases ht
      | cons a r ih =>
        obtain ⟨n1, n2⟩ := List.nodup_cons.mp nd
        rcases List.mem_cons.mp ht with z1 | z1 <;> rcases List.mem_cons.mp ht' with z2 | z2
        · rw [z1, z2]
        · exact absurd (List.mem_map.mpr ⟨t', z2, by rw [e, z1]⟩) n1
        · exact absurd (List.mem_map.mpr ⟨t, z1, by rw [← e, z2]⟩) n1
        · exact ih n2 z1 z2
    rw [this]
    exact n
  · exact (h t' ht').other e (let ⟨ps, a, _⟩ := h t ht; ⟨ps, a⟩) s

/-! ### making a function: lambda, def within a def -/
def DefObj (f : Addr) (name qual : Str) (params : Arguments) (body : List Stmt) (scope : Scope) (clos : List (Str × Addr)) (c' : Addr) : Heap → Prop := fun h => ∃ doc pm ctv, h.get? f = some (PySem.W.fnMade name qual params body scope clos doc pm c' ctv)
/-- the function at f, made by a def within a def -/
def Ndf (H : Hp) (f : Addr) (name qual : Str) (params : Arguments) (body : List Stmt) (scope : Scope) (clos : List (Str × Addr)) : Prop := ∃ c', H f = some (.ext (DefObj f name qual params body scope clos c')) ∧ H c' = some (.ext (RecAt c' qual))
section
variable {X : Cx} {pins : List (Addr × Obj)} {σ : St} {H : Hp} {s : Shared}
/-- a new code object, a new function -/
theorem fn_new {P c' f : Addr} {ps : Array Value} {pos : Pos} {qual : Str} {qs : Nat → Nat → Option Str} {h2 : Heap} {tk : Nat} {φ : Heap → Prop} (I : Inv X pins σ H s) (hP : H P = some (.tbl ps)) (ht : TriplesOk ps.toList)
    (hcs : ∀ pos c, codeAmong pos ps.toList = some c → ∃ c' q, c = .ref c' ∧ qs pos.line pos.col = some q ∧ H c' = some (.ext (RecAt c' q))) (hq : qs pos.line pos.col = some qual)
    (hge : s.heap.objs.size ≤ c') (hgf : s.heap.objs.size ≤ f) (ncf : c' ≠ f)
    (kx : ∀ b o, b ≠ P → s.heap.get? b = some o → h2.get? b = some o) (hPn : h2.get? P = some (PySem.W.tabObj (ps ++ #[rawInt pos.line, rawInt pos.col, .ref c'])))
    (hrec : RecAt c' qual h2) (hφ : φ h2) (hfo : ∃ o, h2.get? f = some o) (st : ∀ h1 h2 : Heap, φ h1 → (∀ o, h1.get? f = some o → h2.get? f = some o) → φ h2) :
    ∃ H', Inv X pins σ H' { s with heap := h2, toks := tk } ∧ H f = none ∧ SameT P H H' ∧ Tab H' P qs ∧ H' f = some (.ext φ) ∧ H' c' = some (.ext (RecAt c' qual)) := by
  have hPo : s.heap.get? P = some (PySem.W.tabObj ps) := I.hok P _ hP
  have hlt : P < s.heap.objs.size := Heap.lt_size hPo
  have nPc : P ≠ c' := Nat.ne_of_lt (Nat.lt_of_lt_of_le hlt hge)
  have nPf : P ≠ f := Nat.ne_of_lt (Nat.lt_of_lt_of_le hlt hgf)
  have fc : H c' = none := I.hok.fresh hge
  have ff : H f = none := I.hok.fresh hgf
  let H' : Hp := upd (upd (upd H P (.tbl (ps ++ #[rawInt pos.line, rawInt pos.col, .ref c']))) c' (.ext (RecAt c' qual))) f (.ext φ)
  have eP : H' P = some (.tbl (ps ++ #[rawInt pos.line, rawInt pos.col, .ref c'])) := by
    show upd _ _ _ P = _
    rw [upd_ne nPf, upd_ne nPc, upd_same]
  have ec : H' c' = some (.ext (RecAt c' qual)) := by
    show upd _ _ _ c' = _
    rw [upd_ne ncf, upd_same]
  have ef : H' f = some (.ext φ) := upd_same
  have eo : ∀ b, b ≠ P → b ≠ c' → b ≠ f → H' b = H b := fun b n1 n2 n3 => by
    show upd _ _ _ b = _
    rw [upd_ne n3, upd_ne n2, upd_ne n1]
  have stay : ∀ b u, b ≠ P → H b = some u → H' b = some u := fun b u n e => by rw [eo b n (ne_of_none e fc) (ne_of_none e ff)]; exact e
  have I2 : Inv X pins σ H' { s with heap := h2, toks := tk } := by
    refine I.un ⟨fun b o e n _ _ => ?_, fun b o e n hb _ => ?_, fun b o e n _ => ?_, fun b o e _ => ?_, fun b xs e => ?_, fun b o u e => ?_, fun b qs e => ?_⟩ fun b u e => ?_
    · exact kx b o (fun z => by rw [z, hP] at n; cases n) e
    · exact ⟨o.slots, kx b o (fun z => by rw [z, hP] at n; cases n) e⟩
    · have hb : b < s.heap.objs.size := Heap.lt_size e
      rw [eo b (fun z => by rw [z, hP] at n; cases n) (Nat.ne_of_lt (Nat.lt_of_lt_of_le hb hge)) (Nat.ne_of_lt (Nat.lt_of_lt_of_le hb hgf))]
      exact n
    · by_cases hb : b = P
      · rw [hb]; exact ⟨_, hPn⟩
      · exact ⟨o, kx b o hb e⟩
    · exact stay b _ (fun z => by rw [z, hP] at e; cases e) e
    · exact stay b _ (fun z => by rw [z, hP] at e; cases e) e
    · by_cases hb : b = P
      · rw [hb, hP] at e
        cases e
        exact ⟨_, by rw [hb]; exact eP⟩
      · exact ⟨#[], by rw [stay b _ hb e]; simp⟩
    · by_cases hb : b = P
      · rw [hb, eP] at e
        cases e
        rw [hb]
        exact hPn
      · by_cases hb2 : b = c'
        · rw [hb2, ec] at e
          cases e
          rw [hb2]
          obtain ⟨c₂, o2, vs2, t2, e2, ho2, _⟩ := id hrec
          cases e2
          exact ⟨hrec, ⟨o2, ho2⟩, rec_stable⟩
        · by_cases hb3 : b = f
          · rw [hb3, ef] at e
            cases e
            rw [hb3]
            exact ⟨hφ, hfo, st⟩
          · rw [eo b hb hb2 hb3] at e
            refine (I.hok b u e).stay (fun d v hd' z => kx d v (fun y => ?_) z) (fun d z => stay d _ (fun y => by rw [y, hP] at z; cases z) z) fun d xs z => stay d _ (fun y => by rw [y, hP] at z; cases z) z
            rcases hd' with y' | y'
            · exact hb (y'.symm.trans y)
            · rw [y, hP] at y'; cases y'
  refine ⟨H', I2, ff, stay, ⟨_, eP, ?_, fun pos' x hx' => ?_⟩, ef, ec⟩
  · have := triples_snoc (p := pos) (c := .ref c') ps.toList ht
    simpa using this
  · have hx2 : codeAmong pos' (ps.toList ++ [rawInt pos.line, rawInt pos.col, .ref c']) = some x := by simpa using hx'
    rcases among_snoc2 _ ht hx2 with z | ⟨z, z1, z2⟩
    · obtain ⟨c2, q2, e1, e2, e3⟩ := hcs pos' x z
      exact ⟨c2, q2, e1, e2, stay c2 _ (fun y => by rw [y, hP] at e3; cases e3) e3⟩
    · exact ⟨c', qual, z, by rw [z1, z2]; exact hq, ec⟩
theorem Inv.bat (I : Inv X pins σ H s) {P : Addr} {ps : Array Value} (hB : BMain X.mg X.base) (hPo : s.heap.get? P = some (PySem.W.tabObj ps)) : s.heap.Ns mainGlobals X.mg ∧ mainGlobals ≠ P ∧ s.heap.BuiltinsAt X.mg P := by
  have hgs : s.heap.Ns mainGlobals X.mg := I.mod.glob.keeps I.bk
  obtain ⟨bm, ob, b1, b2, b3, b4, b5, b6⟩ := hB
  have hgP : mainGlobals ≠ P := fun z => by
    obtain ⟨o, es, ep, e, hd, _⟩ := hgs
    rw [z, hPo] at e; cases e; cases hd
  have hbP : bm ≠ P := fun z => by
    have e := I.bk _ _ b3
    rw [z, hPo] at e; cases e; cases b4
  have hbG : bm ≠ mainGlobals := fun z => by
    obtain ⟨o, es, ep, e, hd, _⟩ := hgs
    have e3 := I.bk _ _ b3
    rw [z, e] at e3; cases e3; rw [hd] at b6; cases b6
  exact ⟨hgs, hgP, bm, ob, b1, b2, hbG, hbP, I.bk _ _ b3, b4, b5, b6⟩
end
def tLamT (P : Addr) (qs : Nat → Nat → Option Str) (qual : Str) (params : Arguments) (body : Expr) (scope : Scope) (clos : List (Str × Addr)) : TE := fun _ H Q => Tab H P qs ∧ ∀ f H', H f = none → SameT P H H' → Tab H' P qs → Lam H' f qual params body scope clos → Q (.ref f) H'
theorem pe_lamT {X : Cx} {c P : Addr} {qs : Nat → Nat → Option Str} {params : Arguments} {body : Expr} {scope : Scope} {clos : List (Str × Addr)} {pos : Pos} (hC : PySem.W.CodeHd X.base c P) (hcd : X.env.code = .ref c) (hB : BMain X.mg X.base) (hcl : closureFor scope X.env = pure clos)
    (hq : qs pos.line pos.col = some (X.env.qual ++ "<lambda>")) (hdef : defaultsOf params X.env = ([], []) := by rfl) :
    PE X (.Lambda params body scope pos) (tLamT P qs (X.env.qual ++ "<lambda>") params body scope clos) := by
  intro pins s σ H Q I h
  obtain ⟨⟨ps, hP, ht, hcs⟩, q⟩ := h
  refine PySem.W.kla_eval hdef ?_
  have hPo : s.heap.get? P = some (PySem.W.tabObj ps) := I.hok P _ hP
  obtain ⟨hgs, hgP, hBA⟩ := I.bat hB hPo
  cases hca : codeAmong pos ps.toList with
  | none =>
    refine PySem.W.kla_makeFunction (mg := X.mg) hcl I.ok.glob hgs hcd (hC.keeps I.bk) hPo ht hca hgP hBA fun c' ctv h' tk hx hge hlt' hrec htb => ?_
    have hsz : s.heap.objs.size ≤ h'.objs.size := Nat.le_of_lt (Nat.lt_of_le_of_lt hge hlt')
    obtain ⟨H', I2, ff, st, tb, ef, ec⟩ := fn_new (tk := tk) (f := h'.objs.size) (φ := LamObj h'.objs.size (X.env.qual ++ "<lambda>") params body scope clos c') I hP ht hcs hq hge hsz (Nat.ne_of_lt hlt')
      (h2 := h'.push (PySem.W.kla_obj "<lambda>" (X.env.qual ++ "<lambda>") params body scope clos ((X.mg "__name__").getD .none) c' ctv))
      (fun b o n e => Heap.get?_push_of_some _ (hx b o n e)) (Heap.get?_push_of_some _ htb) (rec_stable _ _ hrec fun o e => Heap.get?_push_of_some _ e) ⟨_, _, Heap.get?_push_size _ rfl⟩ ⟨_, Heap.get?_push_size _ rfl⟩ fun h1 h2 ⟨pm, ct, z⟩ k => ⟨pm, ct, k _ z⟩
    exact ⟨.ref _, H', I2, rfl, q _ H' ff st tb ⟨c', ef, ec⟩⟩
  | some cv =>
    obtain ⟨c', q', rfl, hq', hc'⟩ := hcs pos cv hca
    obtain rfl : X.env.qual ++ "<lambda>" = q' := by rw [hq] at hq'; exact Option.some.inj hq'
    refine PySem.W.kla_makeFunctionHit (mg := X.mg) hcl I.ok.glob hgs hcd (hC.keeps I.bk) hPo ht hca hBA fun ctv h' tk hk hsz => ?_
    have ff : H h'.objs.size = none := I.hok.fresh hsz
    have I2 := I.laid (a := h'.objs.size) (o := .ext (LamObj h'.objs.size (X.env.qual ++ "<lambda>") params body scope clos c')) (t' := tk) (fun b u e => Heap.get?_push_of_some (PySem.W.kla_obj "<lambda>" (X.env.qual ++ "<lambda>") params body scope clos ((X.mg "__name__").getD .none) c' ctv) (hk b u e)) hsz
      ⟨⟨_, _, Heap.get?_push_size _ rfl⟩, ⟨_, Heap.get?_push_size _ rfl⟩, fun h1 h2 ⟨pm, ct, z⟩ k => ⟨pm, ct, k _ z⟩⟩
    have st : ∀ b u, H b = some u → upd H h'.objs.size (.ext (LamObj h'.objs.size (X.env.qual ++ "<lambda>") params body scope clos c')) b = some u := fun b u e => by rw [upd_ne (ne_of_none e ff)]; exact e
    exact ⟨.ref _, _, I2, rfl, q _ _ ff (fun b u _ e => st b u e) (Tab.keep ⟨ps, hP, ht, hcs⟩ st) ⟨c', upd_same, st _ _ hc'⟩⟩
def tDefT (i : Nat) (P : Addr) (qs : Nat → Nat → Option Str) (name qual : Str) (params : Arguments) (body : List Stmt) (scope : Scope) (clos : List (Str × Addr)) : TS := fun D σ H => Tab H P qs ∧ ∀ f H', H f = none → SameT P H H' → Tab H' P qs → Ndf H' f name qual params body scope clos → D.nx (σ.set i (some (.ref f))) H'
theorem ps_def {X : Cx} {i : Nat} {c P : Addr} {qs : Nat → Nat → Option Str} {name : Str} {params : Arguments} {body : List Stmt} {scope : Scope} {clos : List (Str × Addr)} {pos : Pos} (hN : X.N.Nodup) (hi : X.N[i]? = some name) (hx : Loc X.env.scope name)
    (hC : PySem.W.CodeHd X.base c P) (hcd : X.env.code = .ref c) (hB : BMain X.mg X.base) (hcl : closureFor scope X.env = pure clos)
    (hq : qs pos.line pos.col = some (qualnameIn X.env name name)) (hd0 : params.defaults = [] := by rfl) (hk0 : params.kw_defaults = [] := by rfl) (ha : annTrees params none X.env = [] := by rfl)
    (hf : X.fn name = true ∨ X.env.scope.names.lookup name = some .local := by first | exact .inl rfl | exact .inr rfl | assumption) :
    PS X (.FunctionDef name params body [] none [] scope none name pos) (tDefT i P qs name (qualnameIn X.env name name) params body scope clos) := by
  intro pins s σ H D I h
  obtain ⟨⟨ps, hP, ht, hcs⟩, q⟩ := h
  refine PySem.W.nestDef_K hd0 hk0 ha ?_
  have hPo : s.heap.get? P = some (PySem.W.tabObj ps) := I.hok P _ hP
  obtain ⟨hgs, hgP, hBA⟩ := I.bat hB hPo
  generalize qualnameIn X.env name name = qual at hq q
  cases hca : codeAmong pos ps.toList with
  | none =>
    refine PySem.W.makeFunction_K (mg := X.mg) hcl I.ok.glob hgs hcd (hC.keeps I.bk) hPo ht hca hgP hBA fun c' ctv doc h' tk hx' hge hlt' hrec htb => ?_
    have hsz : s.heap.objs.size ≤ h'.objs.size := Nat.le_of_lt (Nat.lt_of_le_of_lt hge hlt')
    obtain ⟨H', I2, ff, st, tb, ef, ec⟩ := fn_new (tk := tk) (f := h'.objs.size) (φ := DefObj h'.objs.size name qual params body scope clos c') I hP ht hcs hq hge hsz (Nat.ne_of_lt hlt')
      (h2 := h'.push (PySem.W.fnMade name qual params body scope clos doc ((X.mg "__name__").getD .none) c' ctv))
      (fun b o n e => Heap.get?_push_of_some _ (hx' b o n e)) (Heap.get?_push_of_some _ htb) (rec_stable _ _ hrec fun o e => Heap.get?_push_of_some _ e) ⟨_, _, _, Heap.get?_push_size _ rfl⟩ ⟨_, Heap.get?_push_size _ rfl⟩ fun h1 h2 ⟨dc, pm, ct, z⟩ k => ⟨dc, pm, ct, k _ z⟩
    exact store_ok I2 hN hi hx (v := .ref h'.objs.size) rfl (fun s2 I3 => ⟨_, H', I3, q _ H' ff st tb ⟨c', ef, ec⟩⟩) hf
  | some cv =>
    obtain ⟨c', q', rfl, hq', hc'⟩ := hcs pos cv hca
    obtain rfl : qual = q' := by rw [hq] at hq'; exact Option.some.inj hq'
    refine PySem.W.makeFunction_hit (mg := X.mg) hcl I.ok.glob hgs hcd (hC.keeps I.bk) hPo ht hca hBA fun ctv doc h' tk hk hsz => ?_
    have ff : H h'.objs.size = none := I.hok.fresh hsz
    have I2 := I.laid (a := h'.objs.size) (o := .ext (DefObj h'.objs.size name qual params body scope clos c')) (t' := tk) (fun b u e => Heap.get?_push_of_some (PySem.W.fnMade name qual params body scope clos doc ((X.mg "__name__").getD .none) c' ctv) (hk b u e)) hsz
      ⟨⟨_, _, _, Heap.get?_push_size _ rfl⟩, ⟨_, Heap.get?_push_size _ rfl⟩, fun h1 h2 ⟨dc, pm, ct, z⟩ k => ⟨dc, pm, ct, k _ z⟩⟩
    have st : ∀ b u, H b = some u → upd H h'.objs.size (.ext (DefObj h'.objs.size name qual params body scope clos c')) b = some u := fun b u e => by rw [upd_ne (ne_of_none e ff)]; exact e
    exact store_ok I2 hN hi hx (v := .ref h'.objs.size) rfl (fun s2 I3 => ⟨_, _, I3, q _ _ ff (fun b u _ e => st b u e) (Tab.keep ⟨ps, hP, ht, hcs⟩ st) ⟨c', upd_same, st _ _ hc'⟩⟩) hf
end L2

set_option maxHeartbeats 4000000
namespace L2
open PySem PySem.Spec PyProof.Rows

/-! ### what a closure holds -/
structure Cap where
  y : Str
  c : Addr
  v : V
def capC (L : List Cap) : List (Str × Addr) := L.map fun q => (q.y, q.c)
def capA (L : List Cap) : List Addr := L.map (·.c)
def Caps (H : Hp) (L : List Cap) : Prop := ∀ q ∈ L, CellIs H q.c q.v
theorem CellIs.sam {H H' : Hp} {c : Addr} {v : V} (h : CellIs H c v) (s : SamT H H') : CellIs H' c v := by
  obtain ⟨o, u, e1, e2, e3⟩ := h
  exact ⟨o, u, s _ _ e1 (fun _ z => by cases z), e2, e3⟩
theorem CellIs.same {H H' : Hp} {c : Addr} {v : V} (h : CellIs H c v) (s : Same H H') : CellIs H' c v := h.sam s.toSam
theorem Caps.sam {H H' : Hp} {L : List Cap} (h : Caps H L) (s : SamT H H') : Caps H' L := fun q hq => (h q hq).sam s
theorem Caps.same {H H' : Hp} {L : List Cap} (h : Caps H L) (s : Same H H') : Caps H' L := h.sam s.toSam
theorem Caps.frz {H : Hp} {L : List Cap} (h : Caps H L) : ∀ c ∈ capA L, ∃ o, H c = some (frzC c o) := fun c hc => by
  obtain ⟨q, hq, rfl⟩ := List.mem_map.mp hc
  obtain ⟨o, u, e, _⟩ := h q hq
  exact ⟨o, e⟩
theorem Lam.sam {H H' : Hp} {f : Addr} {qual : Str} {params : Arguments} {body : Expr} {scope : Scope} {clos : List (Str × Addr)} (h : Lam H f qual params body scope clos) (s : SamT H H') : Lam H' f qual params body scope clos := by
  obtain ⟨c', e1, e2⟩ := h
  exact ⟨c', s _ _ e1 (fun _ z => by cases z), s _ _ e2 (fun _ z => by cases z)⟩
theorem Ndf.sam {H H' : Hp} {f : Addr} {name qual : Str} {params : Arguments} {body : List Stmt} {scope : Scope} {clos : List (Str × Addr)} (h : Ndf H f name qual params body scope clos) (s : SamT H H') : Ndf H' f name qual params body scope clos := by
  obtain ⟨c', e1, e2⟩ := h
  exact ⟨c', s _ _ e1 (fun _ z => by cases z), s _ _ e2 (fun _ z => by cases z)⟩
theorem lookup_nodup {α : Type} {x : Str} {a : α} : ∀ {l : List (Str × α)}, (l.map (·.1)).Nodup → (x, a) ∈ l → l.lookup x = some a
  | [], _, h => by cases h
  | (k, b) :: r, nd, h => by
    obtain ⟨n1, n2⟩ := List.nodup_cons.mp nd
    rw [List.lookup_cons]
    rcases List.mem_cons.mp h with z | z
    · cases z
      simp
    · have : (x == k) = false := beq_eq_false_iff_ne.mpr fun e => n1 (List.mem_map.mpr ⟨_, z, e⟩)
      rw [this]
      exact lookup_nodup n2 z
theorem rev_lookup {ps : List Str} {us : List Value} {i : Nat} {x : Str} {u : Value} (nd : ps.Nodup) (hl : ps.length ≤ us.length) (hp : ps[i]? = some x) (hu : us[i]? = some u) : (ps.zip us).reverse.lookup x = some u := by
  refine lookup_nodup ?_ ?_
  · rw [List.map_reverse, List.map_fst_zip hl]
    exact List.pairwise_reverse.mpr (nd.imp fun h => Ne.symm h)
  · rw [List.mem_reverse]
    refine List.mem_of_getElem? (i := i) ?_
    rw [List.getElem?_zip_eq_some]
    exact ⟨hp, hu⟩
theorem cap_lookup {L : List Cap} (nd : (L.map (·.y)).Nodup) {q : Cap} (hq : q ∈ L) : (capC L).lookup q.y = some q.c := by
  refine lookup_nodup ?_ (List.mem_map.mpr ⟨q, hq, rfl⟩)
  rw [show (capC L).map (·.1) = L.map (·.y) from by simp [capC]]
  exact nd
theorem cap_of {L : List Cap} {z : Str} {d : Addr} (h : (capC L).lookup z = some d) : ∃ q ∈ L, q.y = z ∧ q.c = d := by
  obtain ⟨q, hq, e⟩ := List.mem_map.mp (PySem.mem_of_lookup h)
  cases e
  exact ⟨q, hq, rfl, rfl⟩
/-- a closure's scope: its parameters, the names it takes from around, its own; none of its own is a cell -/
structure CloScope (N ps fv : List Str) (scope : Scope) : Prop where
  kind : scope.kind = .function
  co : scope.isCoroutine = false
  gen : scope.isGenerator = false
  nocell : ∀ z ∈ scope.names, z.2 ≠ .cell
  free : ∀ z ∈ scope.names, z.2 = .free → z.1 ∈ fv
  nd : N.Nodup
  pre : N.take (ps ++ fv).length = ps ++ fv
  par : ∀ x ∈ ps, scope.names.lookup x = some .local
  fvs : ∀ y ∈ fv, scope.names.lookup y = some .free
def cxClo (P : Program) (w : World) (K : PySem.W.Frag) (mg : Str → Option Value) (base : Heap) (N : List Str) (qual : Str) (scope : Scope) (f c' : Addr) (cl : List (Str × Addr)) (cs : List Addr) (A : Around) (outer : List Env) (s : Shared) (H : Hp) : Cx where
  prog := P
  w := w
  K := K
  mg := mg
  base := base
  A := A.deeper (PySem.W.envX qual scope s.heap.objs.size f (.ref c') cl)
  N := N
  s₀ := s
  H₀ := put H noH cs
  env := PySem.W.envX qual scope s.heap.objs.size f (.ref c') cl
  outer := outer
  stack := PySem.W.envX qual scope s.heap.objs.size f (.ref c') cl :: outer
  ex := []
  calm := true
  fn := fun _ => false
  pn := []
  xe := fun _ _ => False
section
variable {P : Program} {w : World} {K : PySem.W.Frag} {mg : Str → Option Value} {base : Heap} {N ps : List Str} {qual : Str} {scope : Scope} {f c' : Addr} {A : Around} {outer : List Env} {s s' : Shared} {H H' : Hp} {us : List Value} {vs : List V} {L : List Cap} {h₁ : Heap} {tk : Nat}
theorem inv_clo (S : CloScope N ps (L.map (·.y)) scope) (hnd : (capA L).Nodup) (hd : A.handled = none) (e0 : Env0 P w K mg base A outer s H) (hC : Caps H L) (hl : vs.length = ps.length) (r : Vals vs us)
    (hns : h₁.Ns s.heap.objs.size (fun x => (ps.zip us).reverse.lookup x)) (hk₁ : ∀ b o, s.heap.get? b = some o → h₁.get? b = some o) :
    Inv (cxClo P w K mg base N qual scope f c' (capC L) (capA L) A outer s H) [] (start N (vs ++ L.map (·.v))) (put H noH (capA L)) { s with heap := h₁, toks := tk } := by
  have noA : ∀ b : Addr, b ∉ (cxClo P w K mg base N qual scope f c' (capC L) (capA L) A outer s H).ex := fun b z => absurd (show b ∈ ([] : List Addr) from z) (by simp)
  have ndN : (ps ++ L.map (·.y)).Nodup := by rw [← S.pre]; exact S.nd.sublist (List.take_sublist _ _)
  have ndP : ps.Nodup := (List.nodup_append.mp ndN).1
  have ndF : (L.map (·.y)).Nodup := (List.nodup_append.mp ndN).2.1
  have hpl : (ps ++ L.map (·.y)).length ≤ N.length := by have := congrArg List.length S.pre; rw [List.length_take] at this; omega
  refine ⟨⟨e0.mod, S.kind, rfl, rfl, Nat.le_refl _, fun z1 z2 d h1 h2 => ?_, fun z hz => ?_, fun z d h => (by cases h), fun _ => hd, Around.frames_deeper e0.frames, .inr ⟨rfl, rfl⟩, fun b z => absurd z (noA b), fun b ob e => ⟨(e0.bs b ob e).1, ?_⟩, e0.bsz, fun b _ _ => noA b, fun b z => absurd z (noA b), e0.funs, fun b z => ?_⟩,
    rfl, e0.bare, Un.kept hk₁, ⟨_, hns, fun i z v' h1 h2 h3 => ?_⟩, fun z d h => ?_, ?_, fun z d h => ?_, fun p hp => absurd (show p ∈ ([] : List (Addr × Obj)) from hp) (by simp), (hok_out e0.hok hC.frz).kept hk₁, ?_⟩
  · obtain ⟨q1, m1, e1, e2⟩ := cap_of h1
    obtain ⟨q2, m2, e3, e4⟩ := cap_of h2
    have : q1 = q2 := by
      clear e1 e3 h1 h2 hC S ndN ndF hpl noA
      induction L with
      | nil => cases m1
      | cons a t ih =>
        obtain ⟨n1, n2⟩ := List.nodup_cons.mp (show (a.c :: capA t).Nodup from hnd)
        rcases List.mem_cons.mp m1 with y1 | y1 <;> rcases List.mem_cons.mp m2 with y2 | y2
        · rw [y1, y2]
        · exact absurd (List.mem_map.mpr ⟨q2, y2, by rw [e4, ← e2, y1]⟩) n1
        · exact absurd (List.mem_map.mpr ⟨q1, y1, by rw [e2, ← e4, y2]⟩) n1
        · exact ih n2 y1 y2
    rw [← e1, ← e3, this]
  · have hz : scope.names.lookup z = some .cell ∨ scope.names.lookup z = some .free := hz
    rcases hz with hz | hz
    · exact absurd rfl (S.nocell _ (PySem.mem_of_lookup hz))
    · obtain ⟨q, hq, e⟩ := List.mem_map.mp (S.free _ (PySem.mem_of_lookup hz) rfl)
      exact ⟨q.c, by rw [← show q.y = z from e]; exact cap_lookup ndF hq⟩
  · show put H noH (capA L) b = none
    by_cases hb : b ∈ capA L
    · exact put_noin hb
    · rw [put_out hb]; exact (e0.bs b ob e).2
  · show put H noH (capA L) b = none
    by_cases hb : b ∈ capA L
    · exact put_noin hb
    · rw [put_out hb]; exact e0.frf b z
  · have hi : i < (vs ++ L.map (·.v)).length := by
      unfold start at h2
      by_cases hi : i < (vs ++ L.map (·.v)).length
      · exact hi
      · rw [List.getElem?_append_right (by simpa using hi)] at h2
        rw [List.getElem?_replicate] at h2
        split at h2 <;> cases h2
    have ha : (vs ++ L.map (·.v))[i]? = some v' := by
      unfold start at h2
      rw [List.getElem?_append_left (by simpa using hi), List.getElem?_map] at h2
      cases e : (vs ++ L.map (·.v))[i]? with
      | none => rw [e] at h2; cases h2
      | some a => rw [e] at h2; cases h2; rfl
    have hi' : i < (ps ++ L.map (·.y)).length := by simp at hi ⊢; omega
    have hp : (ps ++ L.map (·.y))[i]? = some z := by
      rw [← S.pre, List.getElem?_take_of_lt hi']; exact h1
    by_cases hc : i < ps.length
    · rw [List.getElem?_append_left (by omega)] at ha
      rw [List.getElem?_append_left hc] at hp
      obtain ⟨u, hu, rv⟩ := r.get ha
      exact ⟨u, rv, .inl ⟨S.par z (List.mem_of_getElem? hp), rev_lookup ndP (by rw [← hl, r.length]; exact Nat.le_refl _) hp hu⟩⟩
    · rw [List.getElem?_append_right (by omega), hl, List.getElem?_map] at ha
      rw [List.getElem?_append_right (by omega), List.getElem?_map] at hp
      cases e : L[i - ps.length]? with
      | none => rw [e] at ha; cases ha
      | some q =>
        rw [e] at ha hp
        cases ha
        cases hp
        have hq := List.mem_of_getElem? e
        obtain ⟨o, u, e1, e2, e3⟩ := hC q hq
        exact ⟨u, e2, .inr ⟨.inr (S.fvs _ (List.mem_map.mpr ⟨q, hq, rfl⟩)), q.c, cap_lookup ndF hq, o, hk₁ _ _ (e0.hok q.c _ e1).1, e3⟩⟩
  · obtain ⟨q, hq, _, rfl⟩ := cap_of h
    obtain ⟨o, u, e1, e2, e3⟩ := hC q hq
    exact ⟨some u, o, hk₁ _ _ (e0.hok q.c _ e1).1, e3⟩
  · show put H noH (capA L) s.heap.objs.size = none
    by_cases hb : s.heap.objs.size ∈ capA L
    · exact put_noin hb
    · rw [put_out hb]; exact e0.hok.fresh (Nat.le_refl _)
  · obtain ⟨q, hq, _, rfl⟩ := cap_of h
    exact put_noin (List.mem_map.mpr ⟨q, hq, rfl⟩)
  · unfold start
    show _ = N.length
    rw [List.length_append, List.length_map, List.length_replicate]
    simp at hpl ⊢
    omega
theorem clo_end {σ' : St} {v : V} {u : Value} {Q : VK} (e0 : Env0 P w K mg base A outer s H) (hC : Caps H L) (nd : (L.map (·.y)).Nodup) (J : Inv (cxClo P w K mg base N qual scope f c' (capC L) (capA L) A outer s H) [] σ' H' s') (rv : RelV v u)
    (q : (∀ c ∈ capA L, H' c = none) → Q v (put H' H (capA L))) : CE outer P w H s Q u s' := by
  have noA : ∀ b : Addr, b ∉ (cxClo P w K mg base N qual scope f c' (capC L) (capA L) A outer s H).ex := fun b z => absurd (show b ∈ ([] : List Addr) from z) (by simp)
  have hn : ∀ c ∈ capA L, H' c = none := fun c hc => by
    obtain ⟨q, hq, rfl⟩ := List.mem_map.mp hc
    exact J.freeC q.y q.c (cap_lookup nd hq)
  have nof : ∀ {b : Addr}, H b = none → b ∉ capA L := fun {b} e z => by
    obtain ⟨o, e'⟩ := hC.frz b z
    rw [e] at e'; cases e'
  have hob : ∀ c ∈ capA L, ∃ o, H c = some (frzC c o) ∧ s'.heap.get? c = some o := fun c hc => by
    obtain ⟨o, e⟩ := hC.frz c hc
    have hco := (e0.hok c _ e).1
    exact ⟨o, e, J.base.keep c o hco (put_noin hc) (fun z => by have := e0.frf c z; rw [this] at e; cases e) (noA c)⟩
  refine ⟨v, put H' H (capA L), J.os, J.bare, ⟨fun b ob e n hb hx => ?_, fun b ob e n hb hx => ?_, fun b ob e n hx => ?_, fun b ob e hx => J.base.there b ob e (noA b), fun b xs e => ?_, fun b ob u e => ?_, fun b qs e => ?_⟩, hok_put J.hok hn hob, rv, q hn⟩
  · exact J.base.keep b ob e (by show put H noH _ b = none; rw [put_out (nof n)]; exact n) hb (noA b)
  · exact J.base.slot b ob e (by show put H noH _ b = none; rw [put_out (nof n)]; exact n) hb (noA b)
  · rw [put_out (nof n)]
    exact J.base.free b ob e (by show put H noH _ b = none; rw [put_out (nof n)]; exact n) (noA b)
  · have hb : b ∉ capA L := fun z => by obtain ⟨o, e'⟩ := hC.frz b z; rw [e] at e'; cases e'
    rw [put_out hb]
    exact J.base.tups b xs (by show put H noH _ b = _; rw [put_out hb]; exact e)
  · by_cases hb : b ∈ capA L
    · rw [put_in hb]; exact e
    · rw [put_out hb]
      exact J.base.frzs b ob u (by show put H noH _ b = _; rw [put_out hb]; exact e)
  · have hb : b ∉ capA L := fun z => by obtain ⟨o, e'⟩ := hC.frz b z; rw [e] at e'; cases e'
    obtain ⟨more, e2⟩ := J.base.tbls b qs (by show put H noH _ b = _; rw [put_out hb]; exact e)
    exact ⟨more, by rw [put_out hb]; exact e2⟩
end
/-- a lambda as a value -/
theorem clo_lam {P : Program} {w : World} {K : PySem.W.Frag} {mg : Str → Option Value} {base : Heap} {k : Nat} {f : Addr} {N ps : List Str} {qual : Str} {params : Arguments} {body : Expr} {scope : Scope} {L : List Cap} {sp : Sp} (S : CloScope N ps (L.map (·.y)) scope) (hnd : (capA L).Nodup)
    (hbind : ∀ (pm ctv : Value) (c' : Addr) (us : List Value), us.length = ps.length → bindArgs (PySem.W.kla_fn "<lambda>" qual params body scope (capC L) pm (.ref c') ctv) ⟨us, []⟩ = pure (ps.zip us))
    (len : ∀ vs H Q E, sp vs H Q E → vs.length = ps.length)
    (hbody : ∀ (c' : Addr) (A : Around) (outer : List Env) (s : Shared) (H : Hp) (vs : List V) (Q : VK) (E : XK), Room k (A.deeper (PySem.W.envX qual scope s.heap.objs.size f (.ref c') (capC L))) → Caps H L → (∀ c ∈ capA L, base.get? c = none ∧ c ∉ frs outer) → sp vs H Q E →
      ∃ t, PE (cxClo P w K mg base N qual scope f c' (capC L) (capA L) A outer s H) body t ∧ t (start N (vs ++ L.map (·.v))) (put H noH (capA L)) fun r H' => (∀ c ∈ capA L, H' c = none) → Q r (put H' H (capA L))) :
    FvOk P w K mg base (k + 1) f (fun H => Lam H f qual params body scope (capC L) ∧ Caps H L) sp := by
  refine ⟨fun H h ⟨⟨c', hf, _⟩, _⟩ hok => ?_, fun A outer s H us vs Q E hr e0 ⟨⟨c', hf, hc'⟩, hC⟩ r hsp => ?_⟩
  · obtain ⟨⟨pm, ctv, e⟩, _⟩ := hok f _ hf
    exact ⟨_, _, _, _, e⟩
  · have hl := len _ _ _ _ hsp
    obtain ⟨⟨pm, ctv, hfo⟩, _⟩ := e0.hok f _ hf
    obtain ⟨hrec, _⟩ := e0.hok c' _ hc'
    have lim : s.heap.NoLimit := e0.mod.nolimit.keeps fun b o e => (e0.bs b o e).1
    have hnb : ∀ c ∈ capA L, base.get? c = none ∧ c ∉ frs outer := fun c hc => by
      obtain ⟨o, e⟩ := hC.frz c hc
      refine ⟨?_, fun z => by have := e0.frf c z; rw [this] at e; cases e⟩
      cases q : base.get? c with
      | none => rfl
      | some o' => have := (e0.bs c o' q).2; rw [this] at e; cases e
    obtain ⟨t, ht, hq⟩ := hbody c' A outer s H vs Q E (hr.deeper _) hC hnb hsp
    have hul : us.length = ps.length := by rw [← hl, r.length]
    refine PySem.W.kla_callFunE hr.depth hfo rfl S.co S.gen rfl hrec ?_
    rw [hbind _ _ _ _ hul]
    refine wpAny_pure (wpAny_newFunctionEnv S.nocell (fun z hz => S.par _ (List.of_mem_zip hz).1) (fun h₁ hns hsb => ⟨lim.fresh _ hsb, ?_⟩) S.kind)
    have hk₁ : ∀ b o, s.heap.get? b = some o → h₁.get? b = some o := fun b o e => hsb.extBut b o (Nat.ne_of_lt (Heap.lt_size e)) (Heap.get?_push_of_some _ e)
    have ndN : (ps ++ L.map (·.y)).Nodup := by rw [← S.pre]; exact S.nd.sublist (List.take_sublist _ _)
    have I := inv_clo (qual := qual) (f := f) (c' := c') (tk := s.toks + (ps.zip us).length) S hnd hr.hd e0 hC hl r hns hk₁
    refine PySem.W.kla_codeExpr (wpAny_mono (ht [] _ _ _ _ I hq) (fun u' s' hs => ?_) fun e s' hs => False.elim hs)
    obtain ⟨r', H', J, rv, q'⟩ := hs
    exact clo_end e0 hC (List.nodup_append.mp ndN).2.1 J rv q'
/-- a def within a def, as a value -/
theorem clo_def {P : Program} {w : World} {K : PySem.W.Frag} {mg : Str → Option Value} {base : Heap} {k : Nat} {f : Addr} {N ps : List Str} {name qual : Str} {params : Arguments} {body : List Stmt} {scope : Scope} {L : List Cap} {sp : Sp} (S : CloScope N ps (L.map (·.y)) scope) (hnd : (capA L).Nodup)
    (hbind : ∀ (doc pm ctv : Value) (c' : Addr) (us : List Value), us.length = ps.length → bindArgs (PySem.W.fnX name qual params body scope (capC L) .none .none doc pm none (.ref c') ctv) ⟨us, []⟩ = pure (ps.zip us))
    (len : ∀ vs H Q E, sp vs H Q E → vs.length = ps.length)
    (hbody : ∀ (c' : Addr) (A : Around) (outer : List Env) (s : Shared) (H : Hp) (vs : List V) (Q : VK) (E : XK), Room k (A.deeper (PySem.W.envX qual scope s.heap.objs.size f (.ref c') (capC L))) → Caps H L → (∀ c ∈ capA L, base.get? c = none ∧ c ∉ frs outer) → sp vs H Q E →
      ∃ t, PSs (cxClo P w K mg base N qual scope f c' (capC L) (capA L) A outer s H) body t ∧ t { nx := fun _ H' => (∀ c ∈ capA L, H' c = none) → Q .non (put H' H (capA L)), rt := fun r H' => (∀ c ∈ capA L, H' c = none) → Q r (put H' H (capA L)) } (start N (vs ++ L.map (·.v))) (put H noH (capA L))) :
    FvOk P w K mg base (k + 1) f (fun H => Ndf H f name qual params body scope (capC L) ∧ Caps H L) sp := by
  refine ⟨fun H h ⟨⟨c', hf, _⟩, _⟩ hok => ?_, fun A outer s H us vs Q E hr e0 ⟨⟨c', hf, hc'⟩, hC⟩ r hsp => ?_⟩
  · obtain ⟨⟨doc, pm, ctv, e⟩, _⟩ := hok f _ hf
    exact ⟨_, _, _, _, e⟩
  · have hl := len _ _ _ _ hsp
    obtain ⟨⟨doc, pm, ctv, hfo⟩, _⟩ := e0.hok f _ hf
    obtain ⟨hrec, _⟩ := e0.hok c' _ hc'
    have lim : s.heap.NoLimit := e0.mod.nolimit.keeps fun b o e => (e0.bs b o e).1
    have hnb : ∀ c ∈ capA L, base.get? c = none ∧ c ∉ frs outer := fun c hc => by
      obtain ⟨o, e⟩ := hC.frz c hc
      refine ⟨?_, fun z => by have := e0.frf c z; rw [this] at e; cases e⟩
      cases q : base.get? c with
      | none => rfl
      | some o' => have := (e0.bs c o' q).2; rw [this] at e; cases e
    obtain ⟨t, ht, hq⟩ := hbody c' A outer s H vs Q E (hr.deeper _) hC hnb hsp
    have hul : us.length = ps.length := by rw [← hl, r.length]
    refine codeAny_call_function hr.depth hfo rfl S.co S.gen rfl hrec ?_
    rw [hbind _ _ _ _ _ hul]
    refine wpAny_pure (wpAny_newFunctionEnv S.nocell (fun z hz => S.par _ (List.of_mem_zip hz).1) (fun h₁ hns hsb => ⟨lim.fresh _ hsb, codeAny_func ?_⟩) S.kind)
    have hk₁ : ∀ b o, s.heap.get? b = some o → h₁.get? b = some o := fun b o e => hsb.extBut b o (Nat.ne_of_lt (Heap.lt_size e)) (Heap.get?_push_of_some _ e)
    have ndN : (ps ++ L.map (·.y)).Nodup := by rw [← S.pre]; exact S.nd.sublist (List.take_sublist _ _)
    have I := inv_clo (qual := qual) (f := f) (c' := c') (tk := s.toks + (ps.zip us).length) S hnd hr.hd e0 hC hl r hns hk₁
    refine wpAny_mono (ht [] _ _ _ _ I hq) (fun fl s' hs => ?_) fun e s' hs => False.elim hs
    cases fl with
    | ret u =>
      obtain ⟨v, σ', H', J, rv, q⟩ := hs
      exact clo_end e0 hC (List.nodup_append.mp ndN).2.1 J rv q
    | next =>
      obtain ⟨σ', H', J, q⟩ := hs
      exact clo_end (v := V.non) (u := Value.none) e0 hC (List.nodup_append.mp ndN).2.1 J rfl q
    | brk =>
      obtain ⟨_, _, _, q⟩ := hs
      exact False.elim q
    | cont =>
      obtain ⟨_, _, _, q⟩ := hs
      exact False.elim q
/-! ### a def whose body is one return: its cells stand frozen behind it -/
section
variable {P : Program} {w : World} {K : PySem.W.Frag} {mg : Str → Option Value} {base : Heap}
theorem okR {x qual : Str} {st : Stmt} {f c : Addr} {fd : FuncData} {N ps : List Str} {k : Nat} {sp : Sp} {e : Expr} {pos : Pos} (F : Fun K x qual st f fd) (hc : fd.code = .ref c) (S : FnScope N ps (defScope st)) (hst : defBody st = [.Return (some e) pos]) (sl : Nat → List (Nat × Addr))
    (hsl : ∀ n, ∀ p ∈ sl n, ∃ y, N[p.1]? = some y ∧ (defScope st).names.lookup y = some .cell ∧ (cellsFrom (n + 1) (defScope st).names []).lookup y = some p.2)
    (len : ∀ vs H Q E, sp vs H Q E → vs.length = ps.length)
    (hbody : ∀ (A : Around) (outer : List Env) (s : Shared) (H : Hp) (vs : List V) (Q : VK) (E : XK), Room k (A.deeper (envOfC qual (defScope st) s.heap.objs.size f (.ref c))) → sp vs H Q E →
      ∃ t, PE (cxOf CX0 P w K mg base N qual (defScope st) f (.ref c) A outer s H E).nox e t ∧ t (start N vs) H fun v H' => ∀ Fz : Hp, (∀ c ∈ (sl s.heap.objs.size).map (·.2), H' c = none ∧ ∃ o, Fz c = some (frzC c o)) → (∀ p ∈ sl s.heap.objs.size, ∀ v, (start N vs)[p.1]? = some (some v) → CellIs Fz p.2 v) →
        Q v (put H' Fz ((sl s.heap.objs.size).map (·.2)))) : FnOk P w K mg base CX0 (k + 1) f fd ps sp := by
  obtain ⟨oc, od, kV, doc, pm, an, cdv, ct, osl, rfl, lk, hcd⟩ := F.ex
  have e1 : cdv = .ref c := hc
  subst e1
  refine ⟨len, fun A outer s H args us vs Q E hr e0 hb r hsp => ?_⟩
  have hl := len _ _ _ _ hsp
  have KX : K.In s.heap := e0.mod.kin.keeps fun b o e => (e0.bs b o e).1
  have lim : s.heap.NoLimit := e0.mod.nolimit.keeps fun b o e => (e0.bs b o e).1
  have hkind : ∀ y ∈ ps.zip us, (defScope st).names.lookup y.1 = some .local ∨ ((defScope st).names.lookup y.1 = some .cell ∧ ((cellsFrom (s.heap.objs.size + 1) (defScope st).names []).lookup y.1).isSome = true) := fun ⟨n, v⟩ hy => by
    rcases S.par n (List.of_mem_zip hy).1 with q | q
    · exact .inl q
    · exact .inr ⟨q, PySem.W.cellsFrom_some _ _ _ (.inl q)⟩
  refine codeAny_call_function hr.depth (KX _ _ lk) rfl S.co S.gen rfl (PySem.W.codeRec_of KX hcd) (hb _ _ _ _ ?_)
  refine wpAny_newFunctionEnv_cells S.kind hkind fun env he s1 x => ?_
  subst he
  refine ⟨lim.keeps x.toInCall.keep, codeAny_func ?_⟩
  obtain ⟨t, ht, hq⟩ := hbody A outer s H vs Q E (hr.deeper _) hsp
  have I : Inv (cxOf CX0 P w K mg base N qual (defScope st) f (.ref c) A outer s H E) [] (start N vs) H s1 := inv_start S hr.hd e0 hl r x
  rw [hst]
  refine wpAny_execs_cons (wpAny_Return_some (thn (ht.nox [] s1 (start N vs) H _ I hq) fun u s' ⟨v, H', J, rv, q⟩ => ?_))
  obtain ⟨Fz, hF, hFv, hn, e2⟩ := J.frozen (sl := sl s.heap.objs.size) fun p hp => by
    obtain ⟨y, h1, h2, h3⟩ := hsl s.heap.objs.size p hp
    exact ⟨y, h1, .inr (.inl h2), .inl h2, h3, .inl rfl⟩
  have hF1 : ∀ c ∈ (sl s.heap.objs.size).map (·.2), H c = none ∧ s.heap.objs.size ≤ c := fun c hc => by
    obtain ⟨p, hp, rfl⟩ := List.mem_map.mp hc
    obtain ⟨y, h1, h2, h3⟩ := hsl s.heap.objs.size p hp
    have := J.ok.cab y p.2 rfl h3
    exact ⟨e0.hok.fresh this, this⟩
  have no : ∀ {b : Addr} {o : Obj}, s.heap.get? b = some o → b ∉ (sl s.heap.objs.size).map (·.2) := fun {b o} e z => Nat.lt_irrefl _ (Nat.lt_of_lt_of_le (Heap.lt_size e) (hF1 b z).2)
  have noH : ∀ {b : Addr} {u : HO}, H b = some u → b ∉ (sl s.heap.objs.size).map (·.2) := fun {b u} e z => by rw [(hF1 b z).1] at e; cases e
  refine ⟨v, put H' Fz ((sl s.heap.objs.size).map fun p : Nat × Addr => p.2), J.os, J.bare, ⟨fun b ob e n hb hx => J.base.keep b ob e n hb hx, fun b ob e n hb hx => J.base.slot b ob e n hb hx, fun b ob e n hx => ?_, fun b ob e hx => J.base.there b ob e hx, fun b xs e => ?_, fun b ob u e => ?_, fun b qs e => ?_⟩, e2.hok, rv, q Fz (fun c hc => ⟨(hn c hc).1, let ⟨o, z, _⟩ := hF c hc; ⟨o, z⟩⟩) hFv⟩
  · rw [put_out (no e)]
    exact J.base.free b ob e n hx
  · rw [put_out (noH e)]
    exact J.base.tups b xs e
  · rw [put_out (noH e)]
    exact J.base.frzs b ob u e
  · obtain ⟨more, z⟩ := J.base.tbls b qs e
    exact ⟨more, by rw [put_out (noH e)]; exact z⟩
end
end L2

set_option maxHeartbeats 4000000
namespace L2
open PySem PySem.Spec PyProof.Rows

/-! ### a dict's keys: scalars, or tuples of scalars -/
inductive Kd where
  | s
  | t
abbrev Kd.κ : Kd → Type
  | .s => Key
  | .t => List Key
instance instDecKd : (k : Kd) → DecidableEq k.κ
  | .s => inferInstanceAs (DecidableEq Key)
  | .t => inferInstanceAs (DecidableEq (List Key))
def Kd.mk : (k : Kd) → List (k.κ × V) → HO
  | .s, kvs => .dK kvs
  | .t, kvs => .dT kvs
def Kd.isV (H : Hp) : (k : Kd) → k.κ → V → Prop
  | .s, p, v => v = kV p
  | .t, p, v => ∃ t, v = .ref t ∧ H t = some (.tup (p.map kV))
section
variable {k : Kd} {H H' : Hp} {d : Addr} {kvs : List (k.κ × V)} {p : k.κ} {v x : V}
theorem Kd.get (e : H d = some (k.mk kvs)) (h : k.isV H p v) : DGet H d v (valV kvs p) := by
  cases k with
  | s => have h : v = kV p := h; subst h; exact DGet.k e
  | t => obtain ⟨t, rfl, ht⟩ := h; exact DGet.t e ht
theorem Kd.put (e : H d = some (k.mk kvs)) (h : k.isV H p v) (hl : kvs.length < sizeLine) : DPut H d v x (upd H d (k.mk (putK kvs p x))) := by
  cases k with
  | s => have h : v = kV p := h; subst h; exact DPut.k e hl
  | t => obtain ⟨t, rfl, ht⟩ := h; exact DPut.t e ht hl
theorem Kd.same (h : k.isV H p v) (s : ∀ t xs, H t = some (.tup xs) → H' t = some (.tup xs)) : k.isV H' p v := by
  cases k with
  | s => exact h
  | t => obtain ⟨t, rfl, ht⟩ := h; exact ⟨t, rfl, s _ _ ht⟩
theorem Kd.nt : ∀ xs, k.mk kvs ≠ .tup xs := fun xs z => by cases k <;> cases z
theorem Kd.nl : ∀ xs, k.mk kvs ≠ .lst xs := fun xs z => by cases k <;> cases z
theorem Kd.nf : ∀ o u, k.mk kvs ≠ .frz o u := fun o u z => by cases k <;> cases z
theorem Kd.nn (h : k.isV H p v) : v ≠ .non := fun z => by
  subst z
  cases k with
  | s => have h : V.non = kV p := h; cases p <;> cases h
  | t => obtain ⟨t, e, _⟩ := h; cases e
theorem Kd.uniq {q : k.κ} (h : k.isV H p v) (h' : k.isV H q v) : p = q := by
  cases k with
  | s =>
    have h1 : v = kV p := h
    have h2 : v = kV q := h'
    rw [h1] at h2
    cases p <;> cases q <;> first | (cases h2; rfl) | cases h2
  | t =>
    obtain ⟨t, rfl, ht⟩ := h
    obtain ⟨t', e, ht'⟩ := h'
    cases e
    rw [ht] at ht'
    have : p.map kV = q.map kV := by injection (Option.some.inj ht')
    refine List.map_inj_right (fun x y e => ?_) |>.mp this
    cases x <;> cases y <;> first | (cases e; rfl) | cases e
end
section
variable {X : Cx} {pins : List (Addr × Obj)} {σ : St} {H : Hp} {s : Shared} {a : Addr} {y v : V} {u r : Value} {A : Around} {E : Value → Shared → Prop}
/-- storing, without the subscript's way -/
theorem d_set {H' : Hp} {Q : Unit → Shared → Prop} (hu : A.units < cLine) (I : Inv X pins σ H s) (g : DPut H a y v H') (ry : RelV y u) (rv : RelV v r) (h : ∀ s', Inv X pins σ H' s' → Q () s') :
    wpAny (model X.prog X.w) A (dictSet a u r) Q E s := by
  rcases g with ⟨kvs, k, e, ey, l, eH⟩ | ⟨kvs, k, b, e, ey, eb, l, eH⟩
  · subst ey eH
    obtain ⟨z, hd, vs, rel, dd⟩ := dk_of I.hok e
    have hz : vs.length ≤ sizeLine := by rw [← rel.length]; exact z
    have hl : (putK kvs k v).length ≤ sizeLine := by have := length_putK kvs k v; omega
    refine wpAny_dictSet_pairs (hsz := hz) (kV_is ry) dd fun h' dd' hs => h _ ?_
    have he : ∃ q, h'.get? a = some q := let ⟨q, _, _, hq, _⟩ := dd'; ⟨q, hq⟩
    exact d_write I (by rw [e]; exact True.intro) hs he (dk_new hl hd (rel.put k rv) dd')
  · subst ey eH
    cases (show u = Value.ref b from ry)
    obtain ⟨z, hd, xs, rel, dd⟩ := dt_of I.hok e
    have hz : xs.length ≤ sizeLine := by rw [← Paired.length rel]; exact z
    have hl : (putK kvs k v).length ≤ sizeLine := by have := length_putK kvs k v; omega
    refine wpAny_dictSet_heap (hsz := hz) hu (key_of I.hok eb) dd fun h' dd' hs => h _ ?_
    obtain ⟨q, es, ep, hq, h2, h3, h4, _, h5⟩ := dd'
    refine d_write I (by rw [e]; exact True.intro) hs ⟨q, hq⟩ ⟨hl, hd, _, (rel.put k eb rv).keeps fun c ys ec => ?_, q, es, ep, hq, h2, h3, h4, h5⟩
    rw [upd_ne (ne_of ec e (fun z => nomatch z))]
    exact ec
end
theorem mk_empty (k : Kd) {P : Program} {w : World} {H : Hp} (h : Heap) (hb : sysModules < h.objs.size) : ObjOk P w H (h.push { cls := .type "dict", data := .dict #[] }) h.objs.size (k.mk []) := by
  cases k with
  | s => exact dk_empty h hb
  | t => exact dt_empty h hb
/-- {key: value}, the kind of the key chosen by the reader -/
def tDisp1 (k : Kd) (tk tv : TE) : TE := fun σ H Q => ∀ d, H d = none → tk σ (upd H d (k.mk [])) fun x H1 => tv σ H1 fun y H2 => H2 d = some (k.mk []) ∧ ∃ p, k.isV H2 p x ∧ Q (.ref d) (upd H2 d (k.mk [(p, y)]))
theorem pe_disp1 (k : Kd) {X : Cx} {pos : Pos} {ke ve : Expr} {tk tv : TE} (hu : X.A.units < cLine) (hk : PE X ke tk) (hv : PE X ve tv) : PE X (.Dict [some ke] [ve] pos) (tDisp1 k tk tv) := by
  intro pins s σ H Q I q
  have hn := I.hok.fresh (Nat.le_refl s.heap.objs.size)
  have I1 := I.laid (a := s.heap.objs.size) (o := k.mk []) (h' := s.heap.push { cls := .type "dict", data := .dict #[] }) (t' := s.toks) (fun _ _ q => Heap.get?_push_of_some _ q) (Nat.le_refl _) (mk_empty k s.heap I.big)
  have hlen : (pairTrees [some ke] [ve] X.env pos).length = 1 := pairTrees_length [some ke] [ve] X.env pos rfl rfl
  rw [arm_eval_Dict, zip_pairTrees [some ke] [ve] X.env pos rfl rfl, dictDisplay_pairs _ (fun z => by rw [z] at hlen; cases hlen) (by omega)]
  refine wpAny_bind (wpAny_standAt (wpAny_bind ?_))
  unfold subDict
  refine wpAny_bind (wpAny_alloc ?_)
  refine wpAny_bind (wpAny_holding ?_)
  rw [if_pos (by omega)]
  refine wpAny_bind (pairTrees_cons_walk (thn (hk pins _ σ _ _ I1 (q _ hn)) fun kv s2 ⟨x, H2, I2, rx, q2⟩ => thn (hv pins s2 σ H2 _ I2 q2) fun vv s3 ⟨y, H3, I3, ry, e3, p, hp, q3⟩ => pairTrees_nil_walk ?_))
  refine wpAny_holding ?_
  rw [List.forIn_cons]
  have hput : DPut H3 s.heap.objs.size x y (upd H3 s.heap.objs.size (k.mk (putK [] p y))) := Kd.put e3 hp (by show 0 < sizeLine; rw [sizeLine_eq]; omega)
  refine wpAny_bind (wpAny_bind (wpAny_bind (d_set hu I3 hput rx ry fun s4 I4 => wpAny_pure ?_)))
  dsimp only
  rw [List.forIn_nil]
  exact wpAny_pure (wpAny_pure (wpAny_pure (wpAny_pure ⟨.ref s.heap.objs.size, _, I4, rfl, q3⟩)))
/-- over a list or a tuple, whichever comes -/
def iSeq (K : PySem.W.Frag) (tl : TE) : TI := fun σ H R => tl σ H fun x H1 => ∃ a, x = .ref a ∧ (((∃ xs, SqL K H1 a xs) ∧ R (Itl K a) H1) ∨ ((∃ xs, SqT K H1 a xs) ∧ R (Itt K a) H1))
theorem pi_seq {X : Cx} {tg l : Expr} {tl : TE} (hl : PE X l tl) : PI X tg l (iSeq X.K tl) := by
  intro pins s σ H R I h
  refine thn (hl pins s σ H _ I h) fun v s1 ⟨x, H1, I1, r1, q1⟩ => ?_
  obtain ⟨a, e, ⟨⟨xs, hq⟩, q⟩ | ⟨⟨xs, hq⟩, q⟩⟩ := q1
  · subst e
    cases r1
    obtain ⟨its, rv, p, hz⟩ := I1.list hq
    refine wpAny_pyIter_list p.isList ?_
    refine ⟨s1.heap.objs.size, [s1.heap.objs.size], _, _, H1, rfl, I1.kept (t' := s1.toks) fun b o e => Heap.get?_push_of_some _ e, turn_list a _, ⟨_, Heap.get?_push_size _ rfl, rfl, rfl⟩, fun b hb => ?_, q⟩
    have e : b = s1.heap.objs.size := by simpa using hb
    subst e
    exact I1.fpOk (Nat.le_refl _) (I1.hok.fresh (Nat.le_refl _))
  · subst e
    cases r1
    obtain ⟨its, rv, p, hz⟩ := I1.tuple hq
    refine wpAny_pyIter_tuple (show s1.heap.IsTuple a its.toArray from p) ?_
    refine ⟨s1.heap.objs.size, [s1.heap.objs.size], _, _, H1, rfl, I1.kept (t' := s1.toks) fun b o e => Heap.get?_push_of_some _ e, turn_tuple a _, ⟨_, Heap.get?_push_size _ rfl, rfl, rfl⟩, fun b hb => ?_, q⟩
    have e : b = s1.heap.objs.size := by simpa using hb
    subst e
    exact I1.fpOk (Nat.le_refl _) (I1.hok.fresh (Nat.le_refl _))
end L2

set_option maxHeartbeats 4000000
namespace L2
open PySem PySem.Spec PyProof.Rows
/-- a loop over a list or a tuple that stays as it is -/
theorem for_seq {K : PySem.W.Frag} {a : Addr} {xs : List V} {O : HO} {g : TG} {tb : TS} {D : Ends} {σ : St} {H : Hp} (hO : O = .lst xs ∨ O = .tup xs) (Pv : Nat → St → Hp → Prop) (h0 : Pv 0 σ H) (hl : ∀ i σ H, i ≤ xs.length → Pv i σ H → H a = some O)
    (hs : ∀ i x σ H, xs[i]? = some x → Pv i σ H → g x σ H fun σ2 H2 => tb { D with nx := Pv (i + 1), ct := Pv (i + 1), bk := D.nx } σ2 H2) (hd : ∀ σ H, Pv xs.length σ H → D.nx σ H) :
    ((∃ ys, SqL K H a ys) ∧ ∃ W : Nat → Nat → St → Hp → Prop, (∃ m, W 0 m σ H) ∧ ∀ i m σ H, W i m σ H →
      ((Itl K a).stop i H ∧ D.nx σ H) ∨ ((Itl K a).go i H ∧ ∃ N : St → Hp → Prop, (∀ σ' H', N σ' H' → ∃ m', m' < m ∧ W (i + 1) m' σ' H') ∧ ∀ x H', (Itl K a).yld i H x H' → g x σ H' fun σ2 H2 => tb { D with nx := N, ct := N, bk := D.nx } σ2 H2)) ∨
    ((∃ ys, SqT K H a ys) ∧ ∃ W : Nat → Nat → St → Hp → Prop, (∃ m, W 0 m σ H) ∧ ∀ i m σ H, W i m σ H →
      ((Itt K a).stop i H ∧ D.nx σ H) ∨ ((Itt K a).go i H ∧ ∃ N : St → Hp → Prop, (∀ σ' H', N σ' H' → ∃ m', m' < m ∧ W (i + 1) m' σ' H') ∧ ∀ x H', (Itt K a).yld i H x H' → g x σ H' fun σ2 H2 => tb { D with nx := N, ct := N, bk := D.nx } σ2 H2)) := by
  rcases hO with rfl | rfl
  · exact .inl ⟨⟨xs, SqL.of (hl 0 σ H (Nat.zero_le _) h0)⟩, for_list Pv h0 (fun i σ H hi p => SqL.of (hl i σ H hi p)) hs hd⟩
  · exact .inr ⟨⟨xs, SqT.of (hl 0 σ H (Nat.zero_le _) h0)⟩, for_tup Pv h0 (fun i σ H hi p => SqT.of (hl i σ H hi p)) hs hd⟩
/-- and, or of bools, the second read without a trace -/
def tAndP (ta tb : TE) : TE := fun σ H Q => ta σ H fun x H1 => ∃ c c2, x = .bl c ∧ tb σ H1 (fun y H2 => y = .bl c2 ∧ H2 = H1) ∧ Q (.bl (c && c2)) H1
def tOrP (ta tb : TE) : TE := fun σ H Q => ta σ H fun x H1 => ∃ c c2, x = .bl c ∧ tb σ H1 (fun y H2 => y = .bl c2 ∧ H2 = H1) ∧ Q (.bl (c || c2)) H1
theorem pe_andP {X : Cx} {a b : Expr} {rest : List Expr} {pos : Pos} {ta tb : TE} (ha : PE X a ta) (hb : PE X (.BoolOp .And (b :: rest) pos) tb) : PE X (.BoolOp .And (a :: b :: rest) pos) (tAndP ta tb) := by
  intro pins s σ H Q I h
  refine BoolOp_and (thn (ha pins s σ H _ I h) fun v s1 ⟨x, H1, I1, r1, q1⟩ => ?_)
  obtain ⟨c, c2, rfl, q1, q2⟩ := q1
  cases r1
  refine wpAny_truthy_bool ?_
  cases c with
  | true =>
    refine thn (hb pins s1 σ H1 _ I1 q1) fun u s2 ⟨y, H2, I2, r2, e1, e2⟩ => ?_
    subst e1 e2
    exact ⟨.bl c2, _, I2, r2, q2⟩
  | false => exact ⟨.bl false, H1, I1, rfl, q2⟩
theorem pe_orP {X : Cx} {a b : Expr} {rest : List Expr} {pos : Pos} {ta tb : TE} (ha : PE X a ta) (hb : PE X (.BoolOp .Or (b :: rest) pos) tb) : PE X (.BoolOp .Or (a :: b :: rest) pos) (tOrP ta tb) := by
  intro pins s σ H Q I h
  refine BoolOp_or (thn (ha pins s σ H _ I h) fun v s1 ⟨x, H1, I1, r1, q1⟩ => ?_)
  obtain ⟨c, c2, rfl, q1, q2⟩ := q1
  cases r1
  refine wpAny_truthy_bool ?_
  cases c with
  | false =>
    refine thn (hb pins s1 σ H1 _ I1 q1) fun u s2 ⟨y, H2, I2, r2, e1, e2⟩ => ?_
    subst e1 e2
    exact ⟨.bl c2, _, I2, r2, q2⟩
  | true => exact ⟨.bl true, H1, I1, rfl, q2⟩
end L2

namespace Hs
/-! ### places and their two exits, whatever the places are -/
structure Gr (α : Type) where
  nx : α → Bool → α
  s0 : α
  U : α → Prop
  num : α → Nat
  B : Nat
  h0 : U s0
  cl : ∀ a b, U a → U (nx a b)
  lt : ∀ a, U a → num a < B
  inj : ∀ a b, U a → U b → num a = num b → a = b
section
variable {α : Type} {G : Gr α}
def Gr.led (G : Gr α) (a : α) (w : List Bool) : α := w.foldl G.nx a
def Gr.Reach (G : Gr α) (a : α) : Prop := ∃ w, G.led G.s0 w = a
theorem Gr.led_snoc (G : Gr α) (a : α) (w : List Bool) (b : Bool) : G.led a (w ++ [b]) = G.nx (G.led a w) b := by
  unfold Gr.led
  rw [List.foldl_append]
  rfl
theorem Gr.led_U (G : Gr α) : ∀ (w : List Bool) {a : α}, G.U a → G.U (G.led a w)
  | [], _, h => h
  | b :: w, a, h => Gr.led_U G w (G.cl a b h)
theorem Gr.Reach.zero (G : Gr α) : G.Reach G.s0 := ⟨[], rfl⟩
theorem Gr.Reach.step {a : α} (h : G.Reach a) (b : Bool) : G.Reach (G.nx a b) := by
  obtain ⟨w, rfl⟩ := h
  exact ⟨w ++ [b], G.led_snoc _ w b⟩
theorem Gr.Reach.closed {C : α → Prop} (h0 : C G.s0) (hs' : ∀ a b, C a → C (G.nx a b)) : ∀ {a}, G.Reach a → C a := by
  rintro a ⟨w, rfl⟩
  have : ∀ (w : List Bool) (a : α), C a → C (G.led a w) := by
    intro w
    induction w with
    | nil => intro i h; exact h
    | cons b w ih => intro i h; exact ih _ (hs' i b h)
  exact this w _ h0
theorem Gr.nodup_le (G : Gr α) (l : List α) (hn : l.Nodup) (hU : ∀ a ∈ l, G.U a) : l.length ≤ G.B := by
  have := nodup_lt G.B (l.map G.num) ?_ ?_
  · rwa [List.length_map] at this
  · induction l with
    | nil => simp
    | cons a l ih =>
      rw [List.map_cons, List.nodup_cons]
      obtain ⟨h1, h2⟩ := List.nodup_cons.mp hn
      refine ⟨fun z => ?_, ih h2 fun b hb => hU b (List.mem_cons_of_mem _ hb)⟩
      obtain ⟨b, hb, e⟩ := List.mem_map.mp z
      have := G.inj b a (hU b (List.mem_cons_of_mem _ hb)) (hU a (List.mem_cons_self ..)) e
      exact h1 (this ▸ hb)
  · intro x hx
    obtain ⟨a, ha, rfl⟩ := List.mem_map.mp hx
    exact G.lt a (hU a ha)
/-! ### exploring: the places met, each with the place ahead and the turn -/
abbrev GEnt (α : Type) := α × Option (α × Bool)
structure GEx (G : Gr α) (es : List (GEnt α)) (k : Nat) : Prop where
  first : es[0]? = some (G.s0, none)
  nd : (es.map (·.1)).Nodup
  u : ∀ e ∈ es, G.U e.1
  par : ∀ (i : Nat) p q b, es[i]? = some (p, some (q, b)) → ∃ (j : Nat) (v : Option (α × Bool)), j < i ∧ es[j]? = some (q, v) ∧ G.nx q b = p
  only : ∀ (i : Nat) p, es[i]? = some (p, none) → p = G.s0
  done : ∀ (i : Nat) (e : GEnt α), i < k → es[i]? = some e → ∀ b, G.nx e.1 b ∈ es.map (·.1)
  le : k ≤ es.length
theorem GEx.start (G : Gr α) : GEx G [(G.s0, none)] 0 where
  first := rfl
  nd := by simp
  u := fun e he => by rw [List.mem_singleton.mp he]; exact G.h0
  par := fun i p q b e => by
    match i, e with
    | 0, e => cases e
    | i + 1, e => simp at e
  only := fun i p e => by
    match i, e with
    | 0, e => cases e; rfl
    | i + 1, e => simp at e
  done := fun i e h => by omega
  le := Nat.zero_le _
variable {es : List (GEnt α)} {k : Nat}
theorem GEx.length (h : GEx G es k) : es.length ≤ G.B := by
  have := G.nodup_le (es.map (·.1)) h.nd fun a ha => by
    obtain ⟨e, he, rfl⟩ := List.mem_map.mp ha
    exact h.u e he
  rwa [List.length_map] at this
theorem GEx.pos (h : GEx G es k) : 0 < es.length := (List.getElem?_eq_some_iff.mp h.first).1
theorem GEx.add (h : GEx G es k) {i : Nat} {p q : α} {b : Bool} {v : Option (α × Bool)} (hi : es[i]? = some (q, v)) (hp : G.nx q b = p) (hn : p ∉ es.map (·.1)) : GEx G (es ++ [(p, some (q, b))]) k where
  first := by rw [List.getElem?_append_left h.pos]; exact h.first
  nd := by
    rw [List.map_append, List.nodup_append]
    refine ⟨h.nd, by simp, fun x hx y hy => ?_⟩
    have : y = p := by simpa using hy
    rw [this]
    exact fun z => hn (z ▸ hx)
  u := fun e he => by
    rcases List.mem_append.mp he with he | he
    · exact h.u e he
    · rw [List.mem_singleton.mp he]
      show G.U p
      rw [← hp]
      exact G.cl _ _ (h.u _ (List.mem_of_getElem? hi))
  par := fun j p' q' b' e => by
    by_cases hj : j < es.length
    · rw [List.getElem?_append_left hj] at e
      obtain ⟨j', v', h1, h2, h3⟩ := h.par j p' q' b' e
      exact ⟨j', v', h1, by rw [List.getElem?_append_left (by omega)]; exact h2, h3⟩
    · rw [List.getElem?_append_right (by omega)] at e
      have h0 : j - es.length = 0 := by
        have := (List.getElem?_eq_some_iff.mp e).1
        simp at this
        exact this
      rw [h0] at e
      simp at e
      obtain ⟨rfl, rfl, rfl⟩ := e
      have hil : i < es.length := (List.getElem?_eq_some_iff.mp hi).1
      exact ⟨i, v, by omega, by rw [List.getElem?_append_left hil]; exact hi, hp⟩
  only := fun j p' e => by
    by_cases hj : j < es.length
    · rw [List.getElem?_append_left hj] at e
      exact h.only j p' e
    · rw [List.getElem?_append_right (by omega)] at e
      have h0 : j - es.length = 0 := by
        have := (List.getElem?_eq_some_iff.mp e).1
        simp at this
        exact this
      rw [h0] at e
      simp at e
  done := fun j e hj he b' => by
    have hjl : j < es.length := Nat.lt_of_lt_of_le hj h.le
    rw [List.getElem?_append_left hjl] at he
    rw [List.map_append]
    exact List.mem_append_left _ (h.done j e hj he b')
  le := by rw [List.length_append]; exact Nat.le_trans h.le (Nat.le_add_right _ _)
theorem GEx.next (h : GEx G es k) {e : GEnt α} (he : es[k]? = some e) (hb : ∀ b, G.nx e.1 b ∈ es.map (·.1)) : GEx G es (k + 1) :=
  { h with
    done := fun i e' hi he' b => by
      by_cases hk : i < k
      · exact h.done i e' hk he' b
      · have : i = k := by omega
        subst this
        rw [he] at he'
        cases he'
        exact hb b
    le := (List.getElem?_eq_some_iff.mp he).1 }
theorem GEx.reach (h : GEx G es k) {a : α} (hp : a ∈ es.map (·.1)) : G.Reach a := by
  obtain ⟨e, he, rfl⟩ := List.mem_map.mp hp
  obtain ⟨i, hi⟩ := List.getElem?_of_mem he
  have : ∀ (n i : Nat) (e : GEnt α), i ≤ n → es[i]? = some e → G.Reach e.1 := by
    intro n
    induction n with
    | zero =>
      intro i e hi he
      obtain rfl : i = 0 := by omega
      rw [h.first] at he
      cases he
      exact Gr.Reach.zero G
    | succ n ih =>
      intro i e hi he
      obtain ⟨p, v⟩ := e
      cases v with
      | none =>
        have := h.only i p he
        rw [this]
        exact Gr.Reach.zero G
      | some qb =>
        obtain ⟨q, b⟩ := qb
        obtain ⟨j, v', hj, hjq, hst⟩ := h.par i p q b he
        have := ih j (q, v') (by omega) hjq
        show G.Reach p
        rw [← hst]
        exact this.step b
  exact this i i e (Nat.le_refl _) hi
theorem GEx.all (h : GEx G es es.length) (a : α) : G.Reach a ↔ a ∈ es.map (·.1) := by
  refine ⟨?_, h.reach⟩
  refine Gr.Reach.closed (C := fun p => p ∈ es.map (·.1)) ?_ ?_
  · exact List.mem_map.mpr ⟨_, List.mem_of_getElem? h.first, rfl⟩
  · intro p b hp
    obtain ⟨e, he, rfl⟩ := List.mem_map.mp hp
    obtain ⟨i, hi⟩ := List.getElem?_of_mem he
    exact h.done i e (List.getElem?_eq_some_iff.mp hi).1 hi b
end
/-! ### rooms; pairs of rooms -/
def grRooms (hs : List Rm) (w : Wf hs) : Gr Nat where
  nx := stp hs
  s0 := 0
  U := fun p => p < hs.length
  num := id
  B := hs.length
  h0 := w.ne
  cl := fun a b h => w.stp h b
  lt := fun a h => h
  inj := fun a b _ _ e => e
theorem grRooms_led (hs : List Rm) (w : Wf hs) (a : Nat) (v : List Bool) : (grRooms hs w).led a v = led hs a v := rfl
theorem pair_inj {n p q p' q' : Nat} (hq : q < n) (hq' : q' < n) (e : p * n + q = p' * n + q') : p = p' ∧ q = q' := by
  have h1 : (p * n + q) / n = p := by rw [Nat.mul_comm, Nat.mul_add_div (by omega), Nat.div_eq_of_lt hq]; rfl
  have h2 : (p' * n + q') / n = p' := by rw [Nat.mul_comm, Nat.mul_add_div (by omega), Nat.div_eq_of_lt hq']; rfl
  have : p = p' := by rw [← h1, e, h2]
  subst this
  exact ⟨rfl, by omega⟩
def grPairs (hs gs : List Rm) (w : Wf hs) (v : Wf gs) (s : Nat × Nat) (h1 : s.1 < hs.length) (h2 : s.2 < gs.length) : Gr (Nat × Nat) where
  nx := fun p b => (stp hs p.1 b, stp gs p.2 b)
  s0 := s
  U := fun p => p.1 < hs.length ∧ p.2 < gs.length
  num := fun p => p.1 * gs.length + p.2
  B := hs.length * gs.length
  h0 := ⟨h1, h2⟩
  cl := fun a b h => ⟨w.stp h.1 b, v.stp h.2 b⟩
  lt := fun a h => by
    have : (a.1 + 1) * gs.length ≤ hs.length * gs.length := Nat.mul_le_mul_right _ h.1
    rw [Nat.add_mul] at this
    omega
  inj := fun a b ha hb e => by
    obtain ⟨e1, e2⟩ := pair_inj ha.2 hb.2 e
    exact Prod.ext e1 e2
theorem grPairs_led (hs gs : List Rm) (w : Wf hs) (v : Wf gs) (s : Nat × Nat) (h1 : s.1 < hs.length) (h2 : s.2 < gs.length) : ∀ (x : List Bool) (a : Nat × Nat), (grPairs hs gs w v s h1 h2).led a x = (led hs a.1 x, led gs a.2 x)
  | [], a => rfl
  | b :: x, a => grPairs_led hs gs w v s h1 h2 x _
end Hs

namespace Hs
/-! ### a house with each room there several times -/
def cellB (cs : List Int) (k : Nat) : Int := if cs = [] then (k : Int) else cs.getD (k % cs.length) 0 + k
def blownR (bs : List Rm) (m : Nat) (cs : List Int) (k : Nat) : Rm :=
  ⟨(bs.getD (k % bs.length) default).l + bs.length * (cellB cs k % (m : Int)).toNat, (bs.getD (k % bs.length) default).r + bs.length * (cellB cs k / (m : Int) % (m : Int)).toNat, (bs.getD (k % bs.length) default).lit⟩
def blown (bs : List Rm) (m : Nat) (cs : List Int) : List Rm := (List.range (bs.length * m)).map (blownR bs m cs)
theorem blown_length (bs : List Rm) (m : Nat) (cs : List Int) : (blown bs m cs).length = bs.length * m := by simp [blown]
theorem mod_toNat (x : Int) {m : Nat} (hm : 0 < m) : (x % (m : Int)).toNat < m ∧ (((x % (m : Int)).toNat : Nat) : Int) = x % (m : Int) := by
  have h1 := Int.emod_nonneg x (show (m : Int) ≠ 0 by omega)
  have h2 := Int.emod_lt_of_pos x (show (0 : Int) < (m : Int) by omega)
  omega
theorem blown_lt {n x y m : Nat} (hx : x < n) (hy : y < m) : x + n * y < n * m := by
  have : n * (y + 1) ≤ n * m := Nat.mul_le_mul_left _ hy
  rw [Nat.mul_add] at this
  omega
theorem blown_wf {bs : List Rm} (w : Wf bs) {m : Nat} (hm : 0 < m) (cs : List Int) : Wf (blown bs m cs) := by
  refine ⟨by rw [blown_length]; exact Nat.mul_pos w.ne hm, fun r hr => ?_⟩
  rw [blown_length]
  obtain ⟨k, _, rfl⟩ := List.mem_map.mp hr
  have hk : k % bs.length < bs.length := Nat.mod_lt _ w.ne
  have e : bs.getD (k % bs.length) default = bs[k % bs.length] := by simp [List.getD, hk]
  have := w.ex _ (List.getElem_mem hk)
  rw [← e] at this
  exact ⟨blown_lt this.1 (mod_toNat _ hm).1, blown_lt this.2 (mod_toNat _ hm).1⟩
theorem blown_get (bs : List Rm) (m : Nat) (cs : List Int) {k : Nat} (hk : k < bs.length * m) : (blown bs m cs)[k]? = some (blownR bs m cs k) := by
  simp [blown, hk]
theorem blown_take (bs : List Rm) (m : Nat) (cs : List Int) {k : Nat} (hk : k < bs.length * m) : (blown bs m cs).take (k + 1) = (blown bs m cs).take k ++ [blownR bs m cs k] := by
  rw [List.take_add_one, blown_get bs m cs hk]
  rfl
/-! ### places seen, places still to be looked at -/
structure Dfs {α : Type} (G : Gr α) (seen td : List α) : Prop where
  nd : seen.Nodup
  u : ∀ a ∈ seen, G.U a
  r : ∀ a ∈ td, G.Reach a ∧ G.U a
section
variable {α : Type} {G : Gr α} {seen td : List α}
theorem Dfs.start (G : Gr α) : Dfs G [G.s0] [G.s0] := ⟨by simp, fun a h => by rw [List.mem_singleton.mp h]; exact G.h0, fun a h => by rw [List.mem_singleton.mp h]; exact ⟨Gr.Reach.zero G, G.h0⟩⟩
theorem Dfs.len (h : Dfs G seen td) : seen.length ≤ G.B := G.nodup_le seen h.nd h.u
theorem Dfs.pop {q : α} (h : Dfs G seen (td ++ [q])) : Dfs G seen td ∧ G.Reach q ∧ G.U q := ⟨⟨h.nd, h.u, fun a ha => h.r a (List.mem_append_left _ ha)⟩, h.r q (List.mem_append_right _ (List.mem_singleton.mpr rfl))⟩
theorem Dfs.push {q : α} {b : Bool} (h : Dfs G seen td) (hr : G.Reach q) (hu : G.U q) (hn : G.nx q b ∉ seen) : Dfs G (seen ++ [G.nx q b]) (td ++ [G.nx q b]) where
  nd := by
    rw [List.nodup_append]
    refine ⟨h.nd, by simp, fun x hx y hy => ?_⟩
    rw [List.mem_singleton.mp hy]
    exact fun z => hn (z ▸ hx)
  u := fun a ha => by
    rcases List.mem_append.mp ha with ha | ha
    · exact h.u a ha
    · rw [List.mem_singleton.mp ha]; exact G.cl _ _ hu
  r := fun a ha => by
    rcases List.mem_append.mp ha with ha | ha
    · exact h.r a ha
    · rw [List.mem_singleton.mp ha]; exact ⟨hr.step b, G.cl _ _ hu⟩
end
end Hs

namespace Hs
/-! ### a house laid out over places: the rooms in the order in which they are met -/
def turnF (c : Option Nat) (f : Nat) : Option Nat := c.bind fun c => if f > c then none else if f = c then some (c + 1) else some c
def turnL (l : List Nat) : Option Nat := l.foldl turnF (some 1)
theorem turnL_snoc (l : List Nat) (f : Nat) : turnL (l ++ [f]) = turnF (turnL l) f := by
  unfold turnL
  rw [List.foldl_append]
  rfl
def exitsL (rs : List Rm) : List Nat := rs.flatMap fun r => [r.l, r.r]
theorem exitsL_snoc (rs : List Rm) (r : Rm) : exitsL (rs ++ [r]) = exitsL rs ++ [r.l, r.r] := by simp [exitsL]
structure Lay {α : Type} (G : Gr α) (lit : α → Bool) (as : List α) (rs : List Rm) (idx : List Nat) : Prop where
  first : as[0]? = some G.s0
  nd : as.Nodup
  u : ∀ a ∈ as, G.U a
  rch : ∀ a ∈ as, G.Reach a
  room : ∀ (i : Nat) r, rs[i]? = some r → ∃ a, as[i]? = some a ∧ as[r.l]? = some (G.nx a false) ∧ as[r.r]? = some (G.nx a true) ∧ r.lit = lit a
  turn : turnL (exitsL rs ++ idx) = some as.length
section
variable {α : Type} {G : Gr α} {lit : α → Bool} {as : List α} {rs : List Rm} {idx : List Nat}
theorem Lay.start (G : Gr α) (lit : α → Bool) : Lay G lit [G.s0] [] [] where
  first := rfl
  nd := by simp
  u := fun a h => by rw [List.mem_singleton.mp h]; exact G.h0
  rch := fun a h => by rw [List.mem_singleton.mp h]; exact Gr.Reach.zero G
  room := fun i r e => by simp at e
  turn := rfl
theorem Lay.pos (h : Lay G lit as rs idx) : 0 < as.length := (List.getElem?_eq_some_iff.mp h.first).1
theorem Lay.len (h : Lay G lit as rs idx) : as.length ≤ G.B := G.nodup_le as h.nd h.u
theorem get_app {β : Type} {l m : List β} {i : Nat} {x : β} (h : l[i]? = some x) : (l ++ m)[i]? = some x := by
  rw [List.getElem?_append_left (List.getElem?_eq_some_iff.mp h).1]
  exact h
theorem Lay.add (h : Lay G lit as rs idx) {a : α} (hr : G.Reach a) (hu : G.U a) (hn : a ∉ as) : Lay G lit (as ++ [a]) rs (idx ++ [as.length]) where
  first := get_app h.first
  nd := by
    rw [List.nodup_append]
    refine ⟨h.nd, by simp, fun x hx y hy => ?_⟩
    rw [List.mem_singleton.mp hy]
    exact fun z => hn (z ▸ hx)
  u := fun b hb => by
    rcases List.mem_append.mp hb with hb | hb
    · exact h.u b hb
    · rw [List.mem_singleton.mp hb]; exact hu
  rch := fun b hb => by
    rcases List.mem_append.mp hb with hb | hb
    · exact h.rch b hb
    · rw [List.mem_singleton.mp hb]; exact hr
  room := fun i r e => by
    obtain ⟨b, e1, e2, e3, e4⟩ := h.room i r e
    exact ⟨b, get_app e1, get_app e2, get_app e3, e4⟩
  turn := by
    rw [← List.append_assoc, turnL_snoc, h.turn, List.length_append]
    show (if as.length > as.length then none else if as.length = as.length then some (as.length + 1) else some as.length) = _
    rw [if_neg (by omega), if_pos rfl]
    rfl
theorem Lay.old (h : Lay G lit as rs idx) {i : Nat} (hi : i < as.length) : Lay G lit as rs (idx ++ [i]) :=
  { h with
    turn := by
      rw [← List.append_assoc, turnL_snoc, h.turn]
      show (if i > as.length then none else if i = as.length then some (as.length + 1) else some as.length) = _
      rw [if_neg (by omega), if_neg (by omega)] }
theorem Lay.put {i j : Nat} (h : Lay G lit as rs [i, j]) {a : α} (ha : as[rs.length]? = some a) (h1 : as[i]? = some (G.nx a false)) (h2 : as[j]? = some (G.nx a true)) : Lay G lit as (rs ++ [⟨i, j, lit a⟩]) [] :=
  { h with
    room := fun k r e => by
      by_cases hk : k < rs.length
      · rw [List.getElem?_append_left hk] at e
        exact h.room k r e
      · rw [List.getElem?_append_right (by omega)] at e
        have h0 : k - rs.length = 0 := by
          have := (List.getElem?_eq_some_iff.mp e).1
          simp at this
          exact this
        rw [h0] at e
        simp at e
        subst e
        have : k = rs.length := by omega
        rw [this]
        exact ⟨a, ha, h1, h2, rfl⟩
    turn := by
      rw [exitsL_snoc, List.append_nil]
      exact h.turn }
/-- the house is whole -/
structure Laid (G : Gr α) (lit : α → Bool) (as : List α) (rs : List Rm) : Prop where
  lay : Lay G lit as rs []
  len : as.length = rs.length
theorem Laid.get (h : Laid G lit as rs) {i : Nat} {a : α} (hi : as[i]? = some a) : ∃ r, rs[i]? = some r ∧ as[r.l]? = some (G.nx a false) ∧ as[r.r]? = some (G.nx a true) ∧ r.lit = lit a := by
  have hl : i < rs.length := by rw [← h.len]; exact (List.getElem?_eq_some_iff.mp hi).1
  have hr : rs[i]? = some rs[i] := by simp [hl]
  obtain ⟨b, e1, e2, e3, e4⟩ := h.lay.room i _ hr
  rw [hi] at e1
  cases e1
  exact ⟨_, hr, e2, e3, e4⟩
theorem Laid.wf (h : Laid G lit as rs) : Wf rs := by
  refine ⟨by rw [← h.len]; exact h.lay.pos, fun r hr => ?_⟩
  obtain ⟨i, hi⟩ := List.getElem?_of_mem hr
  obtain ⟨a, _, e2, e3, _⟩ := h.lay.room i r hi
  rw [← h.len]
  exact ⟨(List.getElem?_eq_some_iff.mp e2).1, (List.getElem?_eq_some_iff.mp e3).1⟩
theorem Laid.stp (h : Laid G lit as rs) {i : Nat} {a : α} (hi : as[i]? = some a) (b : Bool) : as[stp rs i b]? = some (G.nx a b) := by
  obtain ⟨r, e1, e2, e3, _⟩ := h.get hi
  unfold Hs.stp
  rw [e1]
  cases b
  · exact e2
  · exact e3
theorem Laid.led (h : Laid G lit as rs) : ∀ (w : List Bool) {i : Nat} {a : α}, as[i]? = some a → as[led rs i w]? = some (G.led a w)
  | [], _, _, hi => hi
  | b :: w, i, a, hi => Laid.led h w (h.stp hi b)
theorem Laid.shine (h : Laid G lit as rs) {i : Nat} {a : α} (hi : as[i]? = some a) : litAt rs i = lit a := by
  obtain ⟨r, e1, _, _, e4⟩ := h.get hi
  unfold litAt
  rw [e1]
  exact e4
theorem Laid.walk (h : Laid G lit as rs) (w : List Bool) : litAt rs (Hs.led rs 0 w) = lit (G.led G.s0 w) := h.shine (h.led w h.lay.first)
end
end Hs

namespace Hs
/-! ### three houses gone through by one walk -/
def grTrio (fs hs gs : List Rm) (wf : Wf fs) (wh : Wf hs) (wg : Wf gs) : Gr (Nat × Nat × Nat) where
  nx := fun p b => (stp fs p.1 b, stp hs p.2.1 b, stp gs p.2.2 b)
  s0 := (0, 0, 0)
  U := fun p => p.1 < fs.length ∧ p.2.1 < hs.length ∧ p.2.2 < gs.length
  num := fun p => p.1 * (hs.length * gs.length) + (p.2.1 * gs.length + p.2.2)
  B := fs.length * (hs.length * gs.length)
  h0 := ⟨wf.ne, wh.ne, wg.ne⟩
  cl := fun a b h => ⟨wf.stp h.1 b, wh.stp h.2.1 b, wg.stp h.2.2 b⟩
  lt := fun a h => by
    have h1 : (a.2.1 + 1) * gs.length ≤ hs.length * gs.length := Nat.mul_le_mul_right _ h.2.1
    have h2 : (a.1 + 1) * (hs.length * gs.length) ≤ fs.length * (hs.length * gs.length) := Nat.mul_le_mul_right _ h.1
    rw [Nat.add_mul] at h1 h2
    have := h.2.2
    omega
  inj := fun a b ha hb e => by
    have k1 : a.2.1 * gs.length + a.2.2 < hs.length * gs.length := by
      have h1 : (a.2.1 + 1) * gs.length ≤ hs.length * gs.length := Nat.mul_le_mul_right _ ha.2.1
      rw [Nat.add_mul] at h1
      have := ha.2.2
      omega
    have k2 : b.2.1 * gs.length + b.2.2 < hs.length * gs.length := by
      have h1 : (b.2.1 + 1) * gs.length ≤ hs.length * gs.length := Nat.mul_le_mul_right _ hb.2.1
      rw [Nat.add_mul] at h1
      have := hb.2.2
      omega
    obtain ⟨e1, e2⟩ := pair_inj k1 k2 e
    obtain ⟨e3, e4⟩ := pair_inj ha.2.2 hb.2.2 e2
    exact Prod.ext e1 (Prod.ext e3 e4)
theorem grTrio_led (fs hs gs : List Rm) (wf : Wf fs) (wh : Wf hs) (wg : Wf gs) : ∀ (x : List Bool) (a : Nat × Nat × Nat), (grTrio fs hs gs wf wh wg).led a x = (led fs a.1 x, led hs a.2.1 x, led gs a.2.2 x)
  | [], a => rfl
  | b :: x, a => grTrio_led fs hs gs wf wh wg x _
end Hs

set_option maxHeartbeats 8000000
namespace Law
open PySem L2 Hs PyProof.Rows
def top (i : Nat) : Stmt := PySem.Challenge.pw_turnhouse_k05_opposite_both_either.main.body.getD i (.Pass ⟨0, 0, 0, 0⟩)
/-! ### houses in the heap -/
def rmV (r : Rm) : List V := [.int r.l, .int r.r, .bl r.lit]
def Rooms (H : Hp) (ps : List Addr) (hs : List Rm) : Prop := ps.length = hs.length ∧ ∀ (i : Nat) p r, ps[i]? = some p → hs[i]? = some r → H p = some (.tup (rmV r))
structure HouseAt (H : Hp) (a : Addr) (ps : List Addr) (hs : List Rm) : Prop where
  ob : H a = some (.lst (ps.map V.ref))
  rm : Rooms H ps hs
theorem Rooms.same {H H' : Hp} {ps : List Addr} {hs : List Rm} (h : Rooms H ps hs) (s : Same H H') : Rooms H' ps hs := ⟨h.1, fun i p r e1 e2 => s _ _ (h.2 i p r e1 e2)⟩
theorem HouseAt.same {H H' : Hp} {a : Addr} {ps : List Addr} {hs : List Rm} (h : HouseAt H a ps hs) (s : Same H H') : HouseAt H' a ps hs := ⟨s _ _ h.ob, h.rm.same s⟩
theorem Rooms.snoc {H : Hp} {ps : List Addr} {hs : List Rm} {p : Addr} {r : Rm} (h : Rooms H ps hs) (hp : H p = some (.tup (rmV r))) : Rooms H (ps ++ [p]) (hs ++ [r]) := by
  refine ⟨by simp [h.1], fun i q z e1 e2 => ?_⟩
  by_cases hi : i < ps.length
  · rw [List.getElem?_append_left hi] at e1
    rw [List.getElem?_append_left (by rw [← h.1]; exact hi)] at e2
    exact h.2 i q z e1 e2
  · rw [List.getElem?_append_right (by omega)] at e1
    rw [List.getElem?_append_right (by rw [← h.1]; omega), ← h.1] at e2
    have hz : i - ps.length = 0 := by
      have := (List.getElem?_eq_some_iff.mp e1).1
      simp at this
      exact this
    rw [hz] at e1 e2
    simp at e1 e2
    subst e1 e2
    exact hp
theorem HouseAt.get {H : Hp} {a : Addr} {ps : List Addr} {hs : List Rm} (h : HouseAt H a ps hs) {i : Nat} {r : Rm} (hi : hs[i]? = some r) : ∃ p, ps[i]? = some p ∧ H p = some (.tup (rmV r)) ∧ atI (ps.map V.ref) (i : Int) = some (.ref p) := by
  have hl : i < hs.length := (List.getElem?_eq_some_iff.mp hi).1
  have hp : ps[i]? = some (ps[i]'(by rw [h.rm.1]; exact hl)) := by simp
  exact ⟨_, hp, h.rm.2 i _ r hp hi, atI_nat (by rw [List.getElem?_map, hp]; rfl)⟩
theorem same_upd {H : Hp} {p : Addr} {o : HO} (h : H p = none) : Same H (upd H p o) := fun b u e => by rw [upd_ne (ne_of_none e h)]; exact e
theorem _root_.L2.Same.upd {H H1 : Hp} {p : Addr} {o : HO} (s : Same H H1) (h : H1 p = none) : Same H (L2.upd H1 p o) := s.trans (same_upd h)
/-- a new list of ours is written -/
theorem _root_.L2.Same.put {H H1 : Hp} {p : Addr} {o : HO} (s : Same H H1) (h : H p = none) : Same H (L2.upd H1 p o) := fun b u e => by rw [upd_ne (ne_of_none e h)]; exact s b u e
theorem ifT {A B : Prop} {c : Bool} (h : c = true) (a : A) : if c = true then A else B := by rw [if_pos h]; exact a
theorem ifF {A B : Prop} {c : Bool} (h : c = false) (b : B) : if c = true then A else B := by rw [if_neg (by rw [h]; exact Bool.false_ne_true)]; exact b
/-! ### walks as texts -/
def sgn (b : Bool) : Nat := if b then 114 else 108
def txt (w : List Bool) : Str := ⟨(w.map sgn).toArray⟩
theorem txt_size (w : List Bool) : (txt w).cps.size = w.length := by simp [txt]
theorem txt_len (w : List Bool) : (txt w).length = w.length := by show (txt w).cps.size = _; exact txt_size w
theorem txt_get {w : List Bool} {i : Nat} {c : Nat} (h : (txt w).cps[i]? = some c) : ∃ b, w[i]? = some b ∧ c = sgn b := by
  have h' : (w.map sgn)[i]? = some c := by simpa [txt] using h
  rw [List.getElem?_map] at h'
  cases e : w[i]? with
  | none => rw [e] at h'; cases h'
  | some b => rw [e] at h'; exact ⟨b, rfl, (Option.some.inj h').symm⟩
theorem lr_cps : ("lr" : Str).cps = #[108, 114] := by decide +kernel
theorem lr_l : (⟨#[108]⟩ : Str) = txt [false] := rfl
theorem lr_r : (⟨#[114]⟩ : Str) = txt [true] := rfl
theorem sgn_txt (b : Bool) : (⟨#[sgn b]⟩ : Str) = txt [b] := rfl
theorem txt_append (w v : List Bool) : txt w ++ txt v = txt (w ++ v) := by
  refine Str.ext' ?_
  show (txt w).cps ++ (txt v).cps = _
  simp [txt]
theorem txt_inj {w v : List Bool} (h : txt w = txt v) : w = v := by
  have h1 : (w.map sgn).toArray = (v.map sgn).toArray := congrArg (·.cps) h
  have h2 : w.map sgn = v.map sgn := by simpa using h1
  refine List.map_inj_right (fun x y e => ?_) |>.mp h2
  cases x <;> cases y <;> first | rfl | exact absurd e (by decide)
theorem occ_sgn (b : Bool) : Builtin.Str.occurrences ("lr" : Str) ⟨#[sgn b]⟩ 0 ("lr" : Str).length 1 = [if b then 1 else 0] := by cases b <;> decide +kernel

/-! ### the promises of the small defs -/
def spExits : Sp := fun vs H Q _ => ∃ (a : Addr) (ps : List Addr) (hs : List Rm) (i : Nat) (r : Rm), vs = [.ref a, .int (i : Int)] ∧ HouseAt H a ps hs ∧ hs[i]? = some r ∧ ∀ p, H p = none → Q (.ref p) (upd H p (.tup [.int r.l, .int r.r]))
def spLit : Sp := fun vs H Q _ => ∃ (a : Addr) (ps : List Addr) (hs : List Rm) (i : Nat) (r : Rm), vs = [.ref a, .int (i : Int)] ∧ HouseAt H a ps hs ∧ hs[i]? = some r ∧ Q (.bl r.lit) H
def spWhole : Sp := fun vs H Q _ => ∃ i : Int, vs = [.int i] ∧ Q (.bl true) H
def spAt (K : PySem.W.Frag) : Sp := fun vs H Q _ => ∃ (a : Addr) (ns : List Int) (k : Nat), vs = [.ref a, .int (k : Int)] ∧ SqL K H a (ns.map V.int) ∧ Q (.int (ns.getD k 0)) H
def spDrawn (K : PySem.W.Frag) : Sp := fun vs H Q _ => ∃ (a : Addr) (ns : List Int), vs = [.ref a] ∧ SqL K H a (ns.map V.int) ∧ ns.length ≤ 1000 ∧
  ∀ (l : Addr) (ps : List Addr) (H' : Hp), H l = none → Same H H' → HouseAt H' l ps (drawn ns) → Q (.ref l) H'
def spIsHouse : Sp := fun vs H Q _ => ∃ (a : Addr) (ps : List Addr) (hs : List Rm), vs = [.ref a] ∧ HouseAt H a ps hs ∧ Wf hs ∧ ∀ H', Same H H' → Q (.bl true) H'
def spUnhurt : Sp := fun vs H Q _ => ∃ (a b : Addr) (ps : List Addr) (hs : List Rm), vs = [.ref a, .ref b] ∧ HouseAt H a ps hs ∧ HouseAt H b ps hs ∧ Wf hs ∧ ∀ H', Same H H' → Q (.bl true) H'
def spLed : Sp := fun vs H Q _ => ∃ (a : Addr) (ps : List Addr) (hs : List Rm) (i : Nat) (w : List Bool), vs = [.ref a, .int (i : Int), .str (txt w)] ∧ HouseAt H a ps hs ∧ Wf hs ∧ i < hs.length ∧ Q (.int (led hs i w : Nat)) H
/-- names of Python's own that the text leaves alone -/
structure Blt (mg : Str → Option Value) : Prop where
  len : mg "len" = none
  max : mg "max" = none
  range : mg "range" = none
  isinstance : mg "isinstance" = none
  int : mg "int" = none
  bool : mg "bool" = none
  str : mg "str" = none
  list : mg "list" = none
  tuple : mg "tuple" = none
  zip : mg "zip" = none
/-- a def of the text: where it stands -/
structure Df (K : PySem.W.Frag) (mg : Str → Option Value) (x : Str) (i : Nat) (ps : List Str) (f : Addr) (fd : FuncData) : Prop where
  fn : Fun K x x (top i) f fd
  m : mg x = some (.ref f)
  b : Binds K fd ps []
section
variable {P : Program} {w : World} {K : PySem.W.Frag} {mg : Str → Option Value} {base : Heap} {f : Addr} {fd : FuncData}
theorem sc_exits_of : FnScope ["house", "room"] ["house", "room"] (defScope (top 3)) := ⟨rfl, rfl, rfl, by decide +kernel, rfl, by decide +kernel, by decide +kernel⟩
theorem ok_exits (F : Fun K "exits_of" "exits_of" (top 3) f fd) : FnOk P w K mg base CX0 1 f fd ["house", "room"] spExits := by
  refine F.ok sc_exits_of (fun vs H Q E h => ?_) (fun cdv A outer s H vs Q E hr h => ?_)
  · obtain ⟨a, ps, hs, i, r, rfl, _⟩ := h
    rfl
  · obtain ⟨a, ps, hs, i, r, rfl, hh, hi, k⟩ := h
    obtain ⟨p, _, hp, hat⟩ := hh.get hi
    refine ⟨_, (pss_one (ps_ret (pe_slice sl_tup (pe_ix ix_list (pv 0) (pv 1) (fun _ _ => rfl)) po_none (po_some pe_int)))), ?_⟩
    exact ⟨_, rfl, _, rfl, a, _, _, _, rfl, rfl, SqL.of hh.ob, hat, _, rfl, p, _, rfl, SqT.of hp, fun z => absurd (show (2 : Nat) = 3 from z.2) (by decide), fun q hq => k q hq⟩
theorem sc_is_lit : FnScope ["house", "room"] ["house", "room"] (defScope (top 4)) := ⟨rfl, rfl, rfl, by decide +kernel, rfl, by decide +kernel, by decide +kernel⟩
theorem ok_lit (F : Fun K "is_lit" "is_lit" (top 4) f fd) : FnOk P w K mg base CX0 1 f fd ["house", "room"] spLit := by
  refine F.ok sc_is_lit (fun vs H Q E h => ?_) (fun cdv A outer s H vs Q E hr h => ?_)
  · obtain ⟨a, ps, hs, i, r, rfl, _⟩ := h
    rfl
  · obtain ⟨a, ps, hs, i, r, rfl, hh, hi, k⟩ := h
    obtain ⟨p, _, hp, hat⟩ := hh.get hi
    refine ⟨_, (pss_one (ps_ret (pe_ix ix_tup (pe_ix ix_list (pv 0) (pv 1) (fun _ _ => rfl)) pe_int (fun _ _ => rfl)))), ?_⟩
    exact ⟨_, rfl, _, rfl, a, _, _, _, rfl, rfl, SqL.of hh.ob, hat, p, _, _, _, rfl, rfl, SqT.of hp, rfl, k⟩
theorem sc_law_whole : FnScope ["_law_found"] ["_law_found"] (defScope (top 13)) := ⟨rfl, rfl, rfl, by decide +kernel, rfl, by decide +kernel, by decide +kernel⟩
theorem ok_whole (F : Fun K "_law_whole" "_law_whole" (top 13) f fd) (T : Blt mg) : FnOk P w K mg base CX0 1 f fd ["_law_found"] spWhole := by
  refine F.ok sc_law_whole (fun vs H Q E h => ?_) (fun cdv A outer s H vs Q E hr h => ?_)
  · obtain ⟨i, rfl, _⟩ := h
    rfl
  · obtain ⟨i, rfl, k⟩ := h
    refine ⟨_, (pss_one (ps_ret (pe_and (pe_callB call_isinst (by rfl) T.isinstance boot_isinstance (pa_cons (pv 0) (pa_cons (pe_bltn (v := .ty "int") rfl T.int boot_int rfl) pa_nil))) (pe_one (pe_not (pe_callB call_isinst (by rfl) T.isinstance boot_isinstance (pa_cons (pv 0) (pa_cons (pe_bltn (v := .ty "bool") rfl T.bool boot_bool rfl) pa_nil)))))))), ?_⟩
    refine ⟨_, rfl, _, _, _, _, rfl, .int i, kit_int_int, _, rfl, iteT ?_⟩
    exact ⟨_, rfl, _, _, _, _, rfl, .int i, kit_int_bool, _, rfl, k⟩
theorem sc_law_at : FnScope ["_law_script", "_law_k"] ["_law_script", "_law_k"] (defScope (top 14)) := ⟨rfl, rfl, rfl, by decide +kernel, rfl, by decide +kernel, by decide +kernel⟩
theorem ok_at (F : Fun K "_law_at" "_law_at" (top 14) f fd) (T : Blt mg) : FnOk P w K mg base CX0 1 f fd ["_law_script", "_law_k"] (spAt K) := by
  refine F.ok sc_law_at (fun vs H Q E h => ?_) (fun cdv A outer s H vs Q E hr h => ?_)
  · obtain ⟨a, ns, k, rfl, _⟩ := h
    rfl
  · obtain ⟨a, ns, i, rfl, hS, k⟩ := h
    refine ⟨_, (pss_cons (ps_if (pt_cmpR op_lt (pv 1) (pe_callB call_len_seq (by rfl) T.len PySem.boot_len (pa_cons (pv 0) pa_nil)) (nomark _))
        (pss_one (ps_ret (pe_ix ix_list (pv 0) (pv 1) (fun _ _ => rfl))))
        pss_nil)
      (pss_one (ps_ret pe_int))), ?_⟩
    refine ⟨_, rfl, _, rfl, a, _, rfl, .inl hS, _, _, rfl, rfl, _, rfl, ?_⟩
    by_cases hi : i < ns.length
    · refine ifT (by rw [List.length_map]; exact decide_eq_true (by omega)) ?_
      have e : ns[i]? = some (ns.getD i 0) := by simp [hi]
      exact ⟨_, rfl, _, rfl, a, _, _, _, rfl, rfl, hS, atI_nat (by rw [List.getElem?_map, e]; rfl), k⟩
    · refine ifF (by rw [List.length_map]; exact decide_eq_false (by omega)) ?_
      have e : ns.getD i 0 = 0 := by
        rw [List.getD_eq_getElem?_getD, List.getElem?_eq_none (by omega)]
        rfl
      rw [e] at k
      exact k
theorem sc_law_drawn : FnScope ["_law_cells", "_law_size", "_law_house", "_law_k", "_law_cell", "_law_far", "_law_one", "_law_other"] ["_law_cells"] (defScope (top 15)) := ⟨rfl, rfl, rfl, by decide +kernel, rfl, by decide +kernel, by decide +kernel⟩
theorem max_len (n : Nat) : (if (n : Int) > 1 then (n : Int) else 1) = ((max 1 n : Nat) : Int) := by split <;> omega
theorem ok_drawn (F : Fun K "_law_drawn" "_law_drawn" (top 15) f fd) (T : Blt mg) : FnOk P w K mg base CX0 1 f fd ["_law_cells"] (spDrawn K) := by
  refine F.ok sc_law_drawn (fun vs H Q E h => ?_) (fun cdv A outer s H vs Q E hr h => ?_)
  · obtain ⟨a, ns, rfl, _⟩ := h
    rfl
  · obtain ⟨a, ns, rfl, hS, hn, k⟩ := h
    have hu := hu_of hr
    refine ⟨_, (pss_cons (ps_set (i := 1) sc_law_drawn.nd rfl (Or.inl rfl) (pe_callB (call_max2 rfl) (by rfl) T.max boot_max (pa_cons pe_int (pa_cons (pe_callB call_len_seq (by rfl) T.len PySem.boot_len (pa_cons (pv 0) pa_nil)) pa_nil))))
      (pss_cons (ps_set (i := 2) sc_law_drawn.nd rfl (Or.inl rfl) (pe_lst pa_nil))
      (pss_cons (ps_for PassesOwn.never rfl (pi_range1 rfl T.range (pa_cons (pv 1) pa_nil)) (pg_name (i := 3) sc_law_drawn.nd rfl (Or.inl rfl))
        (pss_cons (ps_set (i := 4) sc_law_drawn.nd rfl (Or.inl rfl) (pv 3))
        (pss_cons (ps_set (i := 5) sc_law_drawn.nd rfl (Or.inl rfl) (pv 3))
        (pss_cons (ps_if (pt_cmpR (op_neL hu) (pv 0) (pe_lst pa_nil) (nomark _))
          (pss_cons (ps_set (i := 4) sc_law_drawn.nd rfl (Or.inl rfl) (pe_ix ix_list (pv 0) (pv 3) (fun _ _ => rfl)))
          (pss_one (ps_set (i := 5) sc_law_drawn.nd rfl (Or.inl rfl) (pe_ix ix_list (pv 0) (pe_op op_mod (pe_op op_add (pv 3) pe_int) (pv 1)) (fun _ _ => rfl)))))
          pss_nil)
        (pss_cons (ps_set (i := 6) sc_law_drawn.nd rfl (Or.inl rfl) (pe_op op_mod (pe_op op_add (pv 4) (pv 3)) (pv 1)))
        (pss_cons (ps_set (i := 7) sc_law_drawn.nd rfl (Or.inl rfl) (pe_op op_mod (pe_op op_add (pe_op op_add (pe_op op_fdiv (pv 5) pe_int) (pe_op op_mul pe_int (pv 3))) pe_int) (pv 1)))
        (pss_one (ps_expr (pe_bm PySem.F.plainAttrs_list PySem.F.slot_list_append PySem.F.type_list_append mt_append (pv 2) (pa_cons (pe_tup (pa_cons (pv 6) (pa_cons (pv 7) (pa_cons (pe_cmpR op_eq (pe_op op_mod (pv 5) pe_int) pe_int (nomark _)) pa_nil)))) pa_nil))))))))))
      (pss_one (ps_ret (pv 2)))))), ?_⟩
    -- size = max(1, len(cells)); house = []
    refine ⟨_, rfl, a, _, rfl, .inl hS, _, _, rfl, ?_⟩
    rw [List.length_map, max_len]
    refine ⟨Nat.zero_le _, fun l hl => ?_⟩
    -- for k in range(size)
    have hm : max 1 ns.length ≤ 1000 := by omega
    refine ⟨_, rfl, _, rfl, by omega, by omega, ?_⟩
    rw [Int.toNat_natCast]
    refine for_range (lo := 0) (n := max 1 ns.length) (fun i σ H2 => ∃ (ps : List Addr) (v3 v4 v5 v6 v7 : Option V), σ = [some (.ref a), some (.int ((max 1 ns.length : Nat) : Int)), some (.ref l), v3, v4, v5, v6, v7] ∧ Same H H2 ∧
        H2 l = some (.lst (ps.map V.ref)) ∧ Rooms H2 ps ((drawn ns).take i) ∧ i ≤ max 1 ns.length)
      ⟨[], none, none, none, none, none, rfl, same_upd hl, upd_same, ⟨rfl, fun i p r e => by simp at e⟩, Nat.zero_le _⟩ ?_ ?_
    · rintro i σ H2 hi ⟨ps, v3, v4, v5, v6, v7, rfl, s2, hl2, hR, _⟩
      rw [Int.zero_add]
      -- cell = k; far = k; cells != []
      refine ⟨_, rfl, _, rfl, _, rfl, Nat.zero_le _, fun p hp => ?_⟩
      have nlp : l ≠ p := ne_of_none hl2 hp
      refine ⟨a, p, _, _, _, rfl, rfl, (s2.upd hp).seq hS, SqL.of upd_same, eqLs_nil, _, rfl, ?_⟩
      have hR3 : Rooms (upd H2 p (.lst [])) ps ((drawn ns).take i) := hR.same (same_upd hp)
      have hl3 : upd H2 p (.lst []) l = some (.lst (ps.map V.ref)) := by rw [upd_ne nlp]; exact hl2
      have s3 : Same H (upd H2 p (.lst [])) := s2.upd hp
      have hpl : ps.length ≤ 1000 := by rw [hR.1, List.length_take]; omega
      have hpos : (0 : Int) < ((max 1 ns.length : Nat) : Int) := by omega
      generalize upd H2 p (.lst []) = H3 at hR3 hl3 s3
      by_cases hns : ns = []
      case' pos =>
        refine ifF (by simp [hns]) ?_
      case' neg =>
        refine ifT (by simp [hns]) ?_
        have hml : max 1 ns.length = ns.length := by
          have : ns.length ≠ 0 := fun z => hns (List.length_eq_zero_iff.mp z)
          omega
        have e4 : ns[i]? = some (cellN ns i) := by
          rw [cellN, if_neg hns]
          have : i < ns.length := by omega
          simp [this]
        have em : ((i : Int) + 1) % ((max 1 ns.length : Nat) : Int) = (((i + 1) % max 1 ns.length : Nat) : Int) := by
          rw [Int.natCast_emod]; rfl
        have e5 : ns[(i + 1) % max 1 ns.length]? = some (farN ns i) := by
          rw [farN, if_neg hns]
          have : (i + 1) % max 1 ns.length < ns.length := by
            have := Nat.mod_lt (i + 1) (show 0 < max 1 ns.length by omega)
            omega
          simp [this]
        refine ⟨_, rfl, _, rfl, a, _, _, _, rfl, rfl, s3.seq hS, atI_nat (by rw [List.getElem?_map, e4]; rfl), ?_⟩
        refine ⟨_, rfl, _, rfl, _, _, rfl, rfl, _, rfl, _, _, rfl, rfl, hpos, a, _, _, _, rfl, rfl, s3.seq hS, (by rw [em]; exact atI_nat (by rw [List.getElem?_map, e5]; rfl)), ?_⟩
      all_goals
        -- one, other
        refine ⟨_, rfl, _, rfl, _, _, rfl, rfl, _, rfl, _, _, rfl, rfl, hpos, ?_⟩
        refine ⟨_, rfl, _, _, rfl, rfl, ⟨by decide, by decide⟩, _, rfl, _, _, rfl, rfl, .inl ⟨by decide, by decide⟩, _, _, rfl, rfl, _, _, rfl, rfl, _, rfl, _, _, rfl, rfl, hpos, ?_⟩
        -- house.append((one, other, far % 3 == 0))
        refine ⟨_, rfl, .inl ⟨rfl, _, SqL.of hl3⟩, _, rfl, _, rfl, _, rfl, _, _, rfl, rfl, (by show (0 : Int) < 3; decide), rfl, (by show 3 ≤ sizeLine; decide), fun q hq => ?_⟩
        have nlq : l ≠ q := ne_of_none hl3 hq
        refine ⟨l, _, _, rfl, rfl, (by rw [upd_ne nlq]; exact hl3), (by rw [List.length_map]; exact small1000 hpl), ?_⟩
        refine ⟨ps ++ [q], _, _, _, _, _, rfl, (s3.upd hq).put hl, (by rw [List.map_append]; exact upd_same), ?_, hi⟩
        rw [drawn_take ns hi]
        have nql : ∀ b o, (L2.upd H3 q o) b ≠ none → True := fun _ _ _ => trivial
        refine Rooms.snoc ⟨hR3.1, fun j x r e1 e2 => ?_⟩ ?_
        · have hx := hR3.2 j x r e1 e2
          have n1 : x ≠ l := fun z => by rw [z, hl3] at hx; cases hx
          rw [upd_ne n1, upd_ne (ne_of_none hx hq)]
          exact hx
        · rw [upd_ne nlq.symm, upd_same]
          have h1 := Int.toNat_of_nonneg (Int.emod_nonneg (cellN ns i + i) (show ((max 1 ns.length : Nat) : Int) ≠ 0 by omega))
          have h2 := Int.toNat_of_nonneg (Int.emod_nonneg (farN ns i / 3 + 2 * i + 1) (show ((max 1 ns.length : Nat) : Int) ≠ 0 by omega))
          have h3 : rmV (roomOf ns i) = [V.int ((cellN ns i + i) % ((max 1 ns.length : Nat) : Int)), V.int ((farN ns i / 3 + 2 * i + 1) % ((max 1 ns.length : Nat) : Int)), V.bl (decide (V.int (farN ns i % 3) = V.int 0))] := by
            rw [rmV, roomOf]
            dsimp only
            rw [h1, h2]
            simp
          rw [h3]
          all_goals first
            | (rw [show cellN ns i = (i : Int) from if_pos hns, show farN ns i = (i : Int) from if_pos hns])
            | rfl
    · rintro σ H2 ⟨ps, v3, v4, v5, v6, v7, rfl, s2, hl2, hR, _⟩
      rw [List.take_of_length_le (by rw [drawn_length]; omega)] at hR
      exact ⟨_, rfl, k l ps H2 hl s2 ⟨hl2, hR⟩⟩
theorem sc_law_is_house : FnScope ["_law_found", "_law_room", "_law_further"] ["_law_found"] (defScope (top 16)) := ⟨rfl, rfl, rfl, by decide +kernel, rfl, by decide +kernel, by decide +kernel⟩
theorem ok_ish {fw : Addr} {fdw : FuncData} (F : Fun K "_law_is_house" "_law_is_house" (top 16) f fd) (T : Blt mg) (W : Df K mg "_law_whole" 13 ["_law_found"] fw fdw) : FnOk P w K mg base CX0 2 f fd ["_law_found"] spIsHouse := by
  have G_whole : FnOk P w K mg base CX0 1 fw fdw ["_law_found"] spWhole := ok_whole W.fn T
  refine F.ok sc_law_is_house (fun vs H Q E h => ?_) (fun cdv A outer s H vs Q E hr h => ?_)
  · obtain ⟨a, ps, hs, rfl, _⟩ := h
    rfl
  · obtain ⟨a, ps, hs, rfl, hh, wf, k⟩ := h
    have hu := hu_of hr
    refine ⟨_, (pss_cons (ps_if (PW.pt (pw_or (pt_not (pt_val (pe_callB call_isinst (by rfl) T.isinstance boot_isinstance (pa_cons (pv 0) (pa_cons (pe_bltn (v := .ty "list") rfl T.list boot_list rfl) pa_nil))))) (pw_or1 (pt_cmpR (op_eqL hu) (pv 0) (pe_lst pa_nil) (nomark _)))))
        (pss_one (ps_ret pe_bl))
        pss_nil)
      (pss_cons (ps_for PassesOwn.never rfl (pi_list (pv 0)) (pg_name (i := 1) sc_law_is_house.nd rfl (Or.inl rfl))
        (pss_cons (ps_if (PW.pt (pw_or (pt_not (pt_val (pe_callB call_isinst (by rfl) T.isinstance boot_isinstance (pa_cons (pv 1) (pa_cons (pe_bltn (v := .ty "tuple") rfl T.tuple boot_tuple rfl) pa_nil))))) (pw_or (pt_cmpR op_ne (pe_callB call_len_seq (by rfl) T.len PySem.boot_len (pa_cons (pv 1) pa_nil)) pe_int (nomark _)) (pw_or1 (pt_not (pt_val (pe_callB call_isinst (by rfl) T.isinstance boot_isinstance (pa_cons (pe_ix ix_tup (pv 1) pe_int (fun _ _ => rfl)) (pa_cons (pe_bltn (v := .ty "bool") rfl T.bool boot_bool rfl) pa_nil)))))))))
          (pss_one (ps_ret pe_bl))
          pss_nil)
        (pss_one (ps_for PassesOwn.never rfl (pi_tup (pe_slice sl_tup (pv 1) po_none (po_some pe_int))) (pg_name (i := 2) sc_law_is_house.nd rfl (Or.inl rfl))
          (pss_one (ps_if (PW.pt (pw_or (pt_not (pt_val (pe_call G_whole hr rfl W.m W.fn.kp W.b .nil pass0 (pa_cons (pv 2) pa_nil)))) (pw_or (pt_cmpR op_lt (pv 2) pe_int (nomark _)) (pw_or1 (pt_cmpR op_ge (pv 2) (pe_callB call_len_seq (by rfl) T.len PySem.boot_len (pa_cons (pv 0) pa_nil)) (nomark _))))))
            (pss_one (ps_ret pe_bl))
            pss_nil))))))
      (pss_one (ps_ret pe_bl)))), ?_⟩
    have hne : ps.map V.ref ≠ [] := fun z => by
      have e1 := congrArg List.length z
      rw [List.length_map, hh.rm.1] at e1
      have e2 := wf.ne
      rw [e1] at e2
      exact absurd e2 (by decide)
    -- not isinstance(found, list) or found == []
    refine ⟨_, rfl, _, _, _, _, rfl, .lst hh.ob, kit_list_list, _, rfl, iteF ?_⟩
    refine ⟨_, rfl, Nat.zero_le _, fun p hp => ?_⟩
    have s1 : Same H (upd H p (.lst [])) := same_upd hp
    refine ⟨a, p, _, _, _, rfl, rfl, SqL.of (s1 _ _ hh.ob), SqL.of upd_same, eqLs_nil, _, rfl, ?_⟩
    refine ifF (decide_eq_false hne) ?_
    -- for room in found
    refine ⟨_, rfl, a, rfl, ⟨_, SqL.of (s1 _ _ hh.ob)⟩, for_list (K := K) (a := a) (xs := ps.map V.ref) (fun i σ H2 => ∃ v1 v2, σ = [some (.ref a), v1, v2] ∧ Same H H2) ⟨_, _, rfl, s1⟩ (fun i σ H2 _ ⟨_, _, _, s2⟩ => SqL.of (s2 _ _ hh.ob)) ?_ ?_⟩
    · rintro i y σ H2 hy ⟨v1, v2, rfl, s2⟩
      have hi : i < hs.length := by
        have := (List.getElem?_eq_some_iff.mp hy).1
        rw [List.length_map, hh.rm.1] at this
        exact this
      have hr0 : hs[i]? = some hs[i] := by simp [hi]
      obtain ⟨q, hq, hqt, _⟩ := hh.get hr0
      obtain rfl : y = V.ref q := by
        rw [List.getElem?_map, hq] at hy
        exact (Option.some.inj hy).symm
      have hw := wf.ex hs[i] (List.getElem_mem hi)
      generalize hs[i] = r at hqt hw
      have hq2 := s2 _ _ hqt
      refine ⟨_, rfl, _, _, _, _, rfl, .tup hq2, kit_tuple_tuple, _, rfl, iteF ?_⟩
      refine ⟨_, rfl, q, _, rfl, .inr (SqT.of hq2), rfl, _, rfl, iteF ?_⟩
      refine ⟨_, rfl, q, _, _, _, rfl, rfl, SqT.of hq2, rfl, _, _, _, _, rfl, .bl _, kit_bool_bool, _, rfl, iteF ?_⟩
      -- for further in room[:2]
      refine ⟨_, rfl, _, rfl, q, _, rfl, SqT.of hq2, fun z => absurd (show (2 : Nat) = 3 from z.2) (by decide), fun t ht => ?_⟩
      have s3 : Same H (upd H2 t (.tup (cutV (rmV r) none (some 2)))) := s2.upd ht
      refine ⟨t, rfl, ⟨_, SqT.of upd_same⟩, for_tup (K := K) (a := t) (xs := cutV (rmV r) none (some 2)) (fun j σ H3 => ∃ v2, σ = [some (.ref a), some (.ref q), v2] ∧ Same H H3 ∧ H3 t = some (.tup (cutV (rmV r) none (some 2)))) ⟨_, rfl, s3, upd_same⟩ (fun j σ H3 _ ⟨_, _, _, h3⟩ => SqT.of h3) ?_ ?_⟩
      · rintro j z σ H3 hz ⟨v2, rfl, s4, h4⟩
        obtain ⟨n, hn, rfl⟩ : ∃ n : Nat, n < hs.length ∧ z = V.int (n : Int) := by
          have e : cutV (rmV r) none (some 2) = [V.int r.l, V.int r.r] := rfl
          rw [e] at hz
          match j, hz with
          | 0, hz => exact ⟨r.l, hw.1, (Option.some.inj hz).symm⟩
          | 1, hz => exact ⟨r.r, hw.2, (Option.some.inj hz).symm⟩
          | j + 2, hz => simp at hz
        refine ⟨_, rfl, _, rfl, _, rfl, iteF ?_⟩
        refine ⟨_, rfl, _, _, rfl, rfl, _, rfl, ?_⟩
        refine ifF (decide_eq_false (by omega)) ?_
        refine ⟨_, rfl, _, rfl, a, _, rfl, .inl (SqL.of (s4 _ _ hh.ob)), _, _, rfl, rfl, _, rfl, ?_⟩
        refine ifF (by rw [List.length_map, hh.rm.1]; exact decide_eq_false (by omega)) ?_
        exact ⟨_, rfl, s4, h4⟩
      · rintro σ H3 ⟨v2, rfl, s4, _⟩
        exact ⟨_, _, rfl, s4⟩
    · rintro σ H2 ⟨v1, v2, rfl, s2⟩
      exact k H2 s2
theorem sc_law_unhurt : FnScope ["_law_handed", "_law_house"] ["_law_handed", "_law_house"] (defScope (top 17)) := ⟨rfl, rfl, rfl, by decide +kernel, rfl, by decide +kernel, by decide +kernel⟩
theorem ok_unhurt {fw fi : Addr} {fdw fdi : FuncData} (F : Fun K "_law_unhurt" "_law_unhurt" (top 17) f fd) (T : Blt mg) (W : Df K mg "_law_whole" 13 ["_law_found"] fw fdw) (IH : Df K mg "_law_is_house" 16 ["_law_found"] fi fdi) :
    FnOk P w K mg base CX0 3 f fd ["_law_handed", "_law_house"] spUnhurt := by
  have G_ish : FnOk P w K mg base CX0 2 fi fdi ["_law_found"] spIsHouse := ok_ish IH.fn T W
  refine F.ok sc_law_unhurt (fun vs H Q E h => ?_) (fun cdv A outer s H vs Q E hr h => ?_)
  · obtain ⟨a, b, ps, hs, rfl, _⟩ := h
    rfl
  · obtain ⟨a, b, ps, hs, rfl, ha, hb, wf, k⟩ := h
    have hu := hu_of hr
    refine ⟨_, (pss_one (ps_ret (pe_and (pe_call G_ish hr rfl IH.m IH.fn.kp IH.b .nil pass0 (pa_cons (pv 0) pa_nil)) (pe_one (pe_cmpR (op_eqL hu) (pv 0) (pv 1) (nomark _)))))), ?_⟩
    refine ⟨_, rfl, a, ps, hs, rfl, ha, wf, fun H' s' => ⟨_, rfl, iteT ?_⟩⟩
    exact ⟨_, rfl, _, rfl, a, b, _, _, _, rfl, rfl, SqL.of (s' _ _ ha.ob), SqL.of (s' _ _ hb.ob), EqLs.refl (fun x hx => by obtain ⟨p, _, rfl⟩ := List.mem_map.mp hx; exact .same p), k H' s'⟩
/-! ### places in the heap -/
structure Plc (α : Type) where
  k : Kd
  key : α → k.κ
def Plc.isP {α : Type} (C : Plc α) (H : Hp) (a : α) (v : V) : Prop := C.k.isV H (C.key a) v
def Plc.Inj {α : Type} (C : Plc α) (G : Gr α) : Prop := ∀ a b, G.U a → G.U b → C.key a = C.key b → a = b
section
variable {α : Type} {C : Plc α} {G : Gr α}
theorem Plc.isP.same {H H' : Hp} {a : α} {v : V} (h : C.isP H a v) (s : ∀ t xs, H t = some (.tup xs) → H' t = some (.tup xs)) : C.isP H' a v := Kd.same h s
theorem valV_at {κ : Type} [DecidableEq κ] : ∀ {kvs : List (κ × V)} {i : Nat} {k : κ} {v : V}, (kvs.map (·.1)).Nodup → kvs[i]? = some (k, v) → valV kvs k = some v
  | [], i, k, v, _, h => by simp at h
  | p :: r, 0, k, v, hn, h => by
    have : p = (k, v) := by simpa using h
    subst this
    exact valV_pos rfl
  | p :: r, i + 1, k, v, hn, h => by
    have h' : r[i]? = some (k, v) := by simpa using h
    have hn' := List.nodup_cons.mp hn
    have ne : ¬ p.1 = k := fun z => hn'.1 (by
      show p.1 ∈ _
      rw [z]
      exact List.mem_map.mpr ⟨_, List.mem_of_getElem? h', rfl⟩)
    rw [valV_neg ne]
    exact valV_at hn'.2 h'
theorem valV_no {κ : Type} [DecidableEq κ] : ∀ {kvs : List (κ × V)} {k : κ}, k ∉ kvs.map (·.1) → valV kvs k = none
  | [], _, _ => rfl
  | p :: r, k, h => by
    have ne : ¬ p.1 = k := fun z => h (by rw [← z]; exact List.mem_cons_self ..)
    rw [valV_neg ne]
    exact valV_no fun z => h (List.mem_cons_of_mem _ z)
theorem putK_new {κ : Type} [DecidableEq κ] {kvs : List (κ × V)} {k : κ} {v : V} (h : k ∉ kvs.map (·.1)) : putK kvs k v = kvs ++ [(k, v)] := by
  unfold putK
  rw [if_neg]
  intro z
  obtain ⟨e, he, q⟩ := List.any_eq_true.mp z
  exact h (List.mem_map.mpr ⟨e, he, by simpa using q⟩)
theorem get_snoc {β : Type} {l : List β} {x y : β} {i : Nat} (e : (l ++ [x])[i]? = some y) : (i < l.length ∧ l[i]? = some y) ∨ (i = l.length ∧ y = x) := by
  by_cases hi : i < l.length
  · rw [List.getElem?_append_left hi] at e
    exact .inl ⟨hi, e⟩
  · rw [List.getElem?_append_right (by omega)] at e
    have h0 : i - l.length = 0 := by
      have := (List.getElem?_eq_some_iff.mp e).1
      simp at this
      exact this
    rw [h0] at e
    simp at e
    exact .inr ⟨by omega, e.symm⟩
/-! ### the steps of an exploring, in the heap -/
def GEntAt (C : Plc α) (H : Hp) (o : Option (α × Bool)) (v : V) : Prop := match o with
  | none => v = .non
  | some (q, b) => ∃ t x, v = .ref t ∧ H t = some (.tup [x, .str (txt [b])]) ∧ C.isP H q x
def GTbl (C : Plc α) (H : Hp) (kvs : List (C.k.κ × V)) (es : List (GEnt α)) : Prop := kvs.length = es.length ∧ ∀ (i : Nat) k v p o, kvs[i]? = some (k, v) → es[i]? = some (p, o) → k = C.key p ∧ GEntAt C H o v
def MetAt (C : Plc α) (H : Hp) (ms : List V) (es : List (GEnt α)) : Prop := ms.length = es.length ∧ ∀ (i : Nat) v e, ms[i]? = some v → es[i]? = some e → C.isP H e.1 v
variable {H H' : Hp} {kvs : List (C.k.κ × V)} {es : List (GEnt α)} {ms : List V}
theorem GEntAt.same {o : Option (α × Bool)} {v : V} (h : GEntAt C H o v) (s : ∀ t xs, H t = some (.tup xs) → H' t = some (.tup xs)) : GEntAt C H' o v := by
  cases o with
  | none => exact h
  | some qb => obtain ⟨t, x, e, ht, hx⟩ := h; exact ⟨t, x, e, s _ _ ht, hx.same s⟩
theorem GTbl.same (h : GTbl C H kvs es) (s : ∀ t xs, H t = some (.tup xs) → H' t = some (.tup xs)) : GTbl C H' kvs es := ⟨h.1, fun i k v p o e1 e2 => let ⟨a, b⟩ := h.2 i k v p o e1 e2; ⟨a, b.same s⟩⟩
theorem MetAt.same (h : MetAt C H ms es) (s : ∀ t xs, H t = some (.tup xs) → H' t = some (.tup xs)) : MetAt C H' ms es := ⟨h.1, fun i v e e1 e2 => (h.2 i v e e1 e2).same s⟩
theorem GTbl.keys (h : GTbl C H kvs es) : kvs.map (·.1) = es.map fun e => C.key e.1 := by
  refine List.ext_getElem? fun i => ?_
  rw [List.getElem?_map, List.getElem?_map]
  by_cases hi : i < es.length
  · have e2 : es[i]? = some es[i] := by simp [hi]
    have e1 : kvs[i]? = some (kvs[i]'(by rw [h.1]; exact hi)) := by simp
    rw [e1, e2]
    exact congrArg some (h.2 i _ _ _ _ e1 e2).1
  · rw [List.getElem?_eq_none (by rw [h.1]; omega), List.getElem?_eq_none (by omega)]
    rfl
theorem key_mem (inj : C.Inj G) (hU : ∀ e ∈ es, G.U e.1) {a : α} (ha : G.U a) : C.key a ∈ (es.map fun e => C.key e.1) ↔ a ∈ es.map (·.1) := by
  constructor
  · intro z
    obtain ⟨e, he, q⟩ := List.mem_map.mp z
    exact List.mem_map.mpr ⟨e, he, inj _ _ (hU e he) ha q⟩
  · intro z
    obtain ⟨e, he, q⟩ := List.mem_map.mp z
    exact List.mem_map.mpr ⟨e, he, by rw [← q]⟩
theorem nodup_keys (inj : C.Inj G) : ∀ {es : List (GEnt α)}, (∀ e ∈ es, G.U e.1) → (es.map (·.1)).Nodup → (es.map fun e => C.key e.1).Nodup
  | [], _, _ => by simp
  | e :: r, hU, hn => by
    obtain ⟨n1, n2⟩ := List.nodup_cons.mp hn
    refine List.nodup_cons.mpr ⟨fun z => n1 ?_, nodup_keys inj (fun x hx => hU x (List.mem_cons_of_mem _ hx)) n2⟩
    exact (key_mem inj (fun x hx => hU x (List.mem_cons_of_mem _ hx)) (hU e (List.mem_cons_self ..))).mp z
theorem GTbl.nodup (h : GTbl C H kvs es) (inj : C.Inj G) (hU : ∀ e ∈ es, G.U e.1) (hn : (es.map (·.1)).Nodup) : (kvs.map (·.1)).Nodup := by
  rw [h.keys]
  exact nodup_keys inj hU hn
theorem GTbl.get (h : GTbl C H kvs es) (inj : C.Inj G) (hU : ∀ e ∈ es, G.U e.1) (hn : (es.map (·.1)).Nodup) {i : Nat} {p : α} {o : Option (α × Bool)} (e : es[i]? = some (p, o)) : ∃ v, kvs[i]? = some (C.key p, v) ∧ valV kvs (C.key p) = some v ∧ GEntAt C H o v := by
  have hi : i < kvs.length := by rw [h.1]; exact (List.getElem?_eq_some_iff.mp e).1
  have e1 : kvs[i]? = some kvs[i] := by simp [hi]
  obtain ⟨k1, k2⟩ := h.2 i kvs[i].1 kvs[i].2 p o e1 e
  have e2 : kvs[i]? = some (C.key p, kvs[i].2) := by rw [e1, ← k1]
  exact ⟨_, e2, valV_at (h.nodup inj hU hn) e2, k2⟩
theorem GTbl.no (h : GTbl C H kvs es) (inj : C.Inj G) (hU : ∀ e ∈ es, G.U e.1) {p : α} (hu : G.U p) (hp : p ∉ es.map (·.1)) : valV kvs (C.key p) = none := by
  refine valV_no fun z => hp ?_
  rw [h.keys] at z
  exact (key_mem inj hU hu).mp z
theorem GTbl.put (h : GTbl C H kvs es) (inj : C.Inj G) (hU : ∀ e ∈ es, G.U e.1) {p q : α} {b : Bool} {t : Addr} {x : V} (hu : G.U p) (hp : p ∉ es.map (·.1)) (ht : H t = some (.tup [x, .str (txt [b])])) (hx : C.isP H q x) :
    GTbl C H (putK kvs (C.key p) (.ref t)) (es ++ [(p, some (q, b))]) := by
  rw [putK_new (fun z => by rw [h.keys] at z; exact hp ((key_mem inj hU hu).mp z))]
  refine ⟨by simp [h.1], fun i k v p' o e1 e2 => ?_⟩
  rcases get_snoc e1 with ⟨h1, e1⟩ | ⟨h1, e1⟩ <;> rcases get_snoc e2 with ⟨h2, e2⟩ | ⟨h2, e2⟩
  · exact h.2 i k v p' o e1 e2
  · have := h.1; omega
  · have := h.1; omega
  · cases e1
    cases e2
    exact ⟨rfl, t, x, rfl, ht, hx⟩
theorem MetAt.snoc (h : MetAt C H ms es) {e : GEnt α} {v : V} (hv : C.isP H e.1 v) : MetAt C H (ms ++ [v]) (es ++ [e]) := by
  refine ⟨by simp [h.1], fun i v' e' e1 e2 => ?_⟩
  rcases get_snoc e1 with ⟨h1, e1⟩ | ⟨h1, e1⟩ <;> rcases get_snoc e2 with ⟨h2, e2⟩ | ⟨h2, e2⟩
  · exact h.2 i v' e' e1 e2
  · have := h.1; omega
  · have := h.1; omega
  · subst e1 e2; exact hv
end
/-! ### the promises -/
def spExG {α : Type} (C : Plc α) (G : Gr α) : Sp := fun vs H Q _ => ∃ a v, vs = [v] ∧ G.U a ∧ C.isP H a v ∧ ∀ p H' vl vr, Same H H' → H' p = some (.tup [vl, vr]) → C.isP H' (G.nx a false) vl → C.isP H' (G.nx a true) vr → Q (.ref p) H'
def spWant {α : Type} (C : Plc α) (G : Gr α) (want : α → Bool) : Sp := fun vs H Q _ => ∃ a v, vs = [v] ∧ G.U a ∧ C.isP H a v ∧ ∀ H', Same H H' → Q (.bl (want a)) H'
/-- what is handed to an exploring -/
structure ExIn (P : Program) (w : World) (K : PySem.W.Frag) (mg : Str → Option Value) (base : Heap) (k : Nat) {α : Type} (C : Plc α) (G : Gr α) (want : α → Bool) (H : Hp) (v0 : V) (fe fw : Addr) (Re Rw : Hp → Prop) : Prop where
  p0 : C.isP H G.s0 v0
  fe : FvOk P w K mg base k fe Re (spExG C G)
  fw : FvOk P w K mg base k fw Rw (spWant C G want)
  re : Re H
  rw : Rw H
  se : ∀ H1 H2, Re H1 → Same H1 H2 → Re H2
  sw : ∀ H1 H2, Rw H1 → Same H1 H2 → Rw H2
  inj : C.Inj G
  few : G.B ≤ 1000
def spExplore (P : Program) (w : World) (K : PySem.W.Frag) (mg : Str → Option Value) (base : Heap) (k : Nat) {α : Type} (C : Plc α) (G : Gr α) (want : α → Bool) : Sp := fun vs H Q _ => ∃ v0 fe fw Re Rw, vs = [v0, .ref fe, .ref fw] ∧ ExIn P w K mg base k C G want H v0 fe fw Re Rw ∧
  (∀ t d kvs es H', Same H H' → H' t = some (.tup [.ref d, .non]) → H' d = some (C.k.mk kvs) → GTbl C H' kvs es → GEx G es es.length → (∀ e ∈ es, want e.1 = false) → Q (.ref t) H') ∧
  (∀ t d kvs es n a va H', Same H H' → H' t = some (.tup [.ref d, va]) → H' d = some (C.k.mk kvs) → GTbl C H' kvs es → GEx G es n → a ∈ es.map (·.1) → C.isP H' a va → want a = true → Q (.ref t) H')
def spWalkTo {α : Type} (C : Plc α) (G : Gr α) : Sp := fun vs H Q _ => ∃ d kvs es n a v, vs = [.ref d, v] ∧ H d = some (C.k.mk kvs) ∧ GTbl C H kvs es ∧ GEx G es n ∧ C.Inj G ∧ G.B ≤ 1000 ∧ a ∈ es.map (·.1) ∧ C.isP H a v ∧
  ∀ (wk : List Bool) (H' : Hp), G.led G.s0 wk = a → Same H H' → Q (.str (txt wk)) H'
def spFirst (P : Program) (w : World) (K : PySem.W.Frag) (mg : Str → Option Value) (base : Heap) (k : Nat) {α : Type} (C : Plc α) (G : Gr α) (want : α → Bool) : Sp := fun vs H Q _ => ∃ v0 fe fw Re Rw, vs = [v0, .ref fe, .ref fw] ∧ ExIn P w K mg base k C G want H v0 fe fw Re Rw ∧
  (∀ H', Same H H' → (∀ a, G.Reach a → want a = false) → Q .non H') ∧ ∀ (wk : List Bool) (H' : Hp), want (G.led G.s0 wk) = true → Same H H' → Q (.str (txt wk)) H'
end
end Law

set_option maxHeartbeats 8000000
namespace Law
open PySem L2 Hs PyProof.Rows
section
variable {P : Program} {w : World} {K : PySem.W.Frag} {mg : Str → Option Value} {base : Heap} {f : Addr} {fd : FuncData}
/-! ### into a closure's body and back -/
section
variable {H H1 H' F : Hp} {cs : List Addr} {L : List Cap} {b : Addr} {u : HO}
theorem put_keep (hF : ∀ c ∈ cs, ∃ o, H c = some (frzC c o)) (e : H b = some u) (n : ∀ c o, u ≠ frzC c o) : put H noH cs b = some u := by
  have hb : b ∉ cs := fun z => by
    obtain ⟨o, e'⟩ := hF b z
    rw [e] at e'
    exact n b o (Option.some.inj e')
  rw [put_out hb]
  exact e
theorem _root_.L2.Caps.keep (hC : Caps H L) (e : H b = some u) (n : ∀ c o, u ≠ frzC c o) : put H noH (capA L) b = some u := put_keep hC.frz e n
theorem back_same (s : Same (put H noH cs) H1) : Same H (put H1 H cs) := fun b u e => by
  by_cases hb : b ∈ cs
  · rw [put_in hb]; exact e
  · rw [put_out hb]; exact s b u (by rw [put_out hb]; exact e)
theorem back_at (hn : ∀ c ∈ cs, H1 c = none) (e : H1 b = some u) : put H1 H cs b = some u := by
  rw [put_out (fun z => by rw [hn b z] at e; cases e)]
  exact e
theorem put_same (hn : ∀ c ∈ cs, H c = none) : Same H (put H F cs) := fun b u e => by rw [put_out (fun z => by rw [hn b z] at e; cases e)]; exact e
/-- behind a call with frozen cells -/
theorem out_sam (hn : ∀ c ∈ cs, H1 c = none) (s1 : SamT H H1) (s2 : SamT (put H1 F cs) H') : SamT H (put H' noH cs) := fun b u e n => by
  have e1 := s1 b u e n
  have hb : b ∉ cs := fun z => by rw [hn b z] at e1; cases e1
  rw [put_out hb]
  exact s2 b u (by rw [put_out hb]; exact e1) n
theorem out_tb {tabs : Tbs} (hF : ∀ c ∈ cs, ∃ o, H c = some (frzC c o)) (t : TB tabs H) : TB tabs (put H noH cs) := fun q hq => by
  obtain ⟨ps, h1, h2, h3⟩ := t q hq
  exact ⟨ps, put_keep hF h1 (fun _ _ z => by cases z), h2, fun pos c e => let ⟨c', q', a, b, d⟩ := h3 pos c e; ⟨c', q', a, b, put_keep hF d fun _ _ z => by cases z⟩⟩
end
theorem HouseAt.into {H : Hp} {L : List Cap} {a : Addr} {ps : List Addr} {hs : List Rm} (h : HouseAt H a ps hs) (hC : Caps H L) : HouseAt (put H noH (capA L)) a ps hs :=
  ⟨hC.keep h.ob (fun _ _ z => by cases z), h.rm.1, fun i p r e1 e2 => hC.keep (h.rm.2 i p r e1 e2) fun _ _ z => by cases z⟩
theorem HouseAt.sam {H H' : Hp} {a : Addr} {ps : List Addr} {hs : List Rm} (h : HouseAt H a ps hs) (s : SamT H H') : HouseAt H' a ps hs :=
  ⟨s _ _ h.ob (fun _ z => by cases z), h.rm.1, fun i p r e1 e2 => s _ _ (h.rm.2 i p r e1 e2) fun _ z => by cases z⟩
theorem _root_.L2.SamT.none {H H' : Hp} {p : Addr} {tabs : Tbs} (s : SamT H H') (h : H' p = Option.none) (n : ∀ ps, H p ≠ some (.tbl ps)) : H p = Option.none := by
  cases e : H p with
  | none => rfl
  | some u => rw [s _ _ e (fun ps z => n ps (by rw [e, z]))] at h; cases h
/-! ### the parts of a lambda -/
def retE : List Stmt → Expr
  | [.Return (some e) _] => e
  | _ => .Constant .none 0 ⟨0, 0, 0, 0⟩
def retPos : List Stmt → Pos
  | [.Return _ p] => p
  | _ => ⟨0, 0, 0, 0⟩
def argE (i : Nat) : Expr → Expr
  | .Call _ es _ _ => es.getD i (.Constant .none 0 ⟨0, 0, 0, 0⟩)
  | e => e
def setE : Stmt → Expr
  | .Assign _ e _ => e
  | _ => .Constant .none 0 ⟨0, 0, 0, 0⟩
def lamArgs : Expr → Arguments
  | .Lambda a _ _ _ => a
  | _ => { posonlyargs := [], args := [], vararg := none, kwonlyargs := [], kw_defaults := [], kwarg := none, defaults := [] }
def lamBody : Expr → Expr
  | .Lambda _ b _ _ => b
  | e => e
def lamScope : Expr → Scope
  | .Lambda _ _ s _ => s
  | _ => { kind := .function, names := [], isGenerator := false, isCoroutine := false }
theorem okC {x qual : Str} {st : Stmt} {f c : Addr} {fd : FuncData} {N ps : List Str} {k : Nat} {sp : Sp} (F : Fun K x qual st f fd) (hc : fd.code = .ref c) (S : FnScope N ps (defScope st)) (len : ∀ vs H Q E, sp vs H Q E → vs.length = ps.length)
    (hbody : ∀ (A : Around) (outer : List Env) (s : Shared) (H : Hp) (vs : List V) (Q : VK) (E : XK), Room k (A.deeper (envOfC qual (defScope st) s.heap.objs.size f (.ref c))) → sp vs H Q E →
      ∃ t, PSs (cxOf CX0 P w K mg base N qual (defScope st) f (.ref c) A outer s H E).nox (defBody st) t ∧ t { nx := fun _ H' => Q .non H', rt := Q } (start N vs) H) : FnOk P w K mg base CX0 (k + 1) f fd ps sp := by
  obtain ⟨oc, od, kV, doc, pm, an, cdv, ct, osl, rfl, lk, hcd⟩ := F.ex
  have e : cdv = .ref c := hc
  subst e
  refine fn_of lk hcd S len fun A outer s H vs Q E hr hsp => ?_
  obtain ⟨t, h, q⟩ := hbody A outer s H vs Q E hr hsp
  exact ⟨t, h.nox, q⟩
/-- a def that makes functions: its code object, its table, the qualified names of what it makes -/
structure Mkr (base : Heap) (fd : FuncData) (tabs : Tbs) (c Pt : Addr) (qs : Nat → Nat → Option Str) : Prop where
  code : fd.code = .ref c
  hd : PySem.W.CodeHd base c Pt
  mem : (Pt, qs) ∈ tabs
def lamQs (x : Str) : Nat → Nat → Option Str := fun _ _ => some (x ++ ".<locals>." ++ "<lambda>")
theorem _root_.L2.Same.none {H H' : Hp} {p : Addr} (s : Same H H') (h : H' p = Option.none) : H p = Option.none := by
  cases e : H p with
  | none => rfl
  | some u => rw [s _ _ e] at h; cases h
def spWide (K : PySem.W.Frag) : Sp := fun vs H Q _ => ∃ (a : Addr) (ns : List Int) (x y : Int), vs = [.ref a, .int x, .int y] ∧ SqL K H a (ns.map V.int) ∧ ns.length ≤ 63 ∧ Q (.int x) H
theorem sc_law_wide : FnScope ["_law_script", "_law_most", "_law_bound"] ["_law_script", "_law_most", "_law_bound"] (defScope (top 19)) := ⟨rfl, rfl, rfl, by decide +kernel, rfl, by decide +kernel, by decide +kernel⟩
theorem ok_wide (F : Fun K "_law_wide" "_law_wide" (top 19) f fd) (T : Blt mg) : FnOk P w K mg base CX0 1 f fd ["_law_script", "_law_most", "_law_bound"] (spWide K) := by
  refine F.ok sc_law_wide (fun vs H Q E h => ?_) (fun cdv A outer s H vs Q E hr h => ?_)
  · obtain ⟨a, ns, x, y, rfl, _⟩ := h
    rfl
  · obtain ⟨a, ns, x, y, rfl, hS, hn, k⟩ := h
    refine ⟨_, (pss_cons (ps_if (pt_cmpR op_gt (pe_callB call_len_seq (by rfl) T.len PySem.boot_len (pa_cons (pv 0) pa_nil)) pe_int (nomark _))
        (pss_one (ps_ret (pv 2)))
        pss_nil)
      (pss_one (ps_ret (pv 1)))), ?_⟩
    refine ⟨_, rfl, a, _, rfl, .inl hS, _, _, rfl, rfl, _, rfl, ?_⟩
    exact ifF (by rw [List.length_map]; exact decide_eq_false (by omega)) ⟨_, rfl, k⟩
theorem cutV_ints (ns : List Int) (lo hi : Option Int) : ∃ ms : List Int, cutV (ns.map V.int) lo hi = ms.map V.int ∧ ms.length ≤ ns.length ∧ ms.length ≤ HT.sIx ns.length ns.length hi - HT.sIx ns.length 0 lo :=
  ⟨(ns.drop (HT.sIx ns.length 0 lo)).take (HT.sIx ns.length ns.length hi - HT.sIx ns.length 0 lo), by rw [cutV, List.length_map, List.map_take, List.map_drop], by rw [List.length_take, List.length_drop]; omega, by rw [List.length_take]; omega⟩
theorem mod_nat (x : Int) {m : Nat} (hm : 0 < m) : ∃ n : Nat, x % (m : Int) = (n : Int) ∧ n < m := by
  have h1 := Int.emod_nonneg x (show (m : Int) ≠ 0 by omega)
  have h2 := Int.emod_lt_of_pos x (show (0 : Int) < (m : Int) by omega)
  exact ⟨(x % (m : Int)).toNat, by omega, by omega⟩
/-! ### lay_out -/
def spExS {α : Type} (C : Plc α) (G : Gr α) : Sp := fun vs H Q _ => ∃ a v, vs = [v] ∧ G.U a ∧ C.isP H a v ∧ ∀ p H' vl vr, Same H H' → ((H p = none ∧ H' p = some (.lst [vl, vr])) ∨ H' p = some (.tup [vl, vr])) → C.isP H' (G.nx a false) vl → C.isP H' (G.nx a true) vr → Q (.ref p) H'
theorem spExS_of {α : Type} {C : Plc α} {G : Gr α} {P : Program} {w : World} {K : PySem.W.Frag} {mg : Str → Option Value} {base : Heap} {k : Nat} {g : Addr} {R : Hp → Prop} (h : FvOk P w K mg base k g R (spExG C G)) : FvOk P w K mg base k g R (spExS C G) :=
  ⟨h.1, fun A outer s H us vs Q E hr e0 hR r hsp => h.2 A outer s H us vs Q E hr e0 hR r (let ⟨a, v, e, hu, hv, q⟩ := hsp; ⟨a, v, e, hu, hv, fun p H' vl vr s' hp => q p H' vl vr s' (.inr hp)⟩)⟩
structure LayIn (P : Program) (w : World) (K : PySem.W.Frag) (mg : Str → Option Value) (base : Heap) (k : Nat) {α : Type} (C : Plc α) (G : Gr α) (lit : α → Bool) (H : Hp) (v0 : V) (fe fl : Addr) (Re Rl : Hp → Prop) : Prop where
  p0 : C.isP H G.s0 v0
  fe : FvOk P w K mg base k fe Re (spExS C G)
  fl : FvOk P w K mg base k fl Rl (spWant C G lit)
  re : Re H
  rl : Rl H
  se : ∀ H1 H2, Re H1 → Same H1 H2 → Re H2
  sl : ∀ H1 H2, Rl H1 → Same H1 H2 → Rl H2
  inj : C.Inj G
  few : G.B < sizeLine
def spLay (P : Program) (w : World) (K : PySem.W.Frag) (mg : Str → Option Value) (base : Heap) (k : Nat) {α : Type} (C : Plc α) (G : Gr α) (lit : α → Bool) : Sp := fun vs H Q _ => ∃ v0 fe fl Re Rl, vs = [v0, .ref fe, .ref fl] ∧ LayIn P w K mg base k C G lit H v0 fe fl Re Rl ∧
  (∀ l ps rs (as : List α) H', H l = none → Same H H' → HouseAt H' l ps rs → Laid G lit as rs → Q (.ref l) H')
section
variable {α : Type} {C : Plc α} {G : Gr α} {H H' : Hp} {kvs : List (C.k.κ × V)} {as : List α}
def NumAt (C : Plc α) (kvs : List (C.k.κ × V)) (as : List α) : Prop := kvs.length = as.length ∧ ∀ (i : Nat) k v a, kvs[i]? = some (k, v) → as[i]? = some a → k = C.key a ∧ v = .int (i : Int)
theorem NumAt.keys (h : NumAt C kvs as) : kvs.map (·.1) = as.map C.key := by
  refine List.ext_getElem? fun i => ?_
  rw [List.getElem?_map, List.getElem?_map]
  by_cases hi : i < as.length
  · have e2 : as[i]? = some as[i] := by simp [hi]
    have e1 : kvs[i]? = some (kvs[i]'(by rw [h.1]; exact hi)) := by simp
    rw [e1, e2]
    exact congrArg some (h.2 i _ _ _ e1 e2).1
  · rw [List.getElem?_eq_none (by rw [h.1]; omega), List.getElem?_eq_none (by omega)]
    rfl
theorem nodup_key (inj : C.Inj G) : ∀ {as : List α}, (∀ a ∈ as, G.U a) → as.Nodup → (as.map C.key).Nodup
  | [], _, _ => by simp
  | a :: r, hU, hn => by
    obtain ⟨n1, n2⟩ := List.nodup_cons.mp hn
    refine List.nodup_cons.mpr ⟨fun z => n1 ?_, nodup_key inj (fun x hx => hU x (List.mem_cons_of_mem _ hx)) n2⟩
    obtain ⟨b, hb, e⟩ := List.mem_map.mp z
    exact inj _ _ (hU b (List.mem_cons_of_mem _ hb)) (hU a (List.mem_cons_self ..)) e ▸ hb
theorem NumAt.get (h : NumAt C kvs as) (inj : C.Inj G) (hU : ∀ a ∈ as, G.U a) (hn : as.Nodup) {i : Nat} {a : α} (e : as[i]? = some a) : valV kvs (C.key a) = some (.int (i : Int)) := by
  have hi : i < kvs.length := by rw [h.1]; exact (List.getElem?_eq_some_iff.mp e).1
  have e1 : kvs[i]? = some kvs[i] := by simp [hi]
  obtain ⟨k1, k2⟩ := h.2 i kvs[i].1 kvs[i].2 a e1 e
  refine valV_at (i := i) (by rw [h.keys]; exact nodup_key inj hU hn) ?_
  rw [e1, ← k1, ← k2]
theorem NumAt.no (h : NumAt C kvs as) (inj : C.Inj G) (hU : ∀ a ∈ as, G.U a) {a : α} (ha : G.U a) (hn : a ∉ as) : C.key a ∉ kvs.map (·.1) := by
  rw [h.keys]
  intro z
  obtain ⟨b, hb, e⟩ := List.mem_map.mp z
  exact hn (inj _ _ (hU b hb) ha e ▸ hb)
theorem NumAt.put (h : NumAt C kvs as) (inj : C.Inj G) (hU : ∀ a ∈ as, G.U a) {a : α} (ha : G.U a) (hn : a ∉ as) : NumAt C (putK kvs (C.key a) (.int (as.length : Int))) (as ++ [a]) := by
  rw [putK_new (h.no inj hU ha hn)]
  refine ⟨by simp [h.1], fun i k v b e1 e2 => ?_⟩
  rcases get_snoc e1 with ⟨h1, e1⟩ | ⟨h1, e1⟩ <;> rcases get_snoc e2 with ⟨h2, e2⟩ | ⟨h2, e2⟩
  · exact h.2 i k v b e1 e2
  · have := h.1; omega
  · have := h.1; omega
  · cases e1
    subst e2
    exact ⟨rfl, by rw [h2]⟩
def PlAt (C : Plc α) (H : Hp) (ms : List V) (as : List α) : Prop := ms.length = as.length ∧ ∀ (i : Nat) v a, ms[i]? = some v → as[i]? = some a → C.isP H a v
theorem PlAt.same {ms : List V} (h : PlAt C H ms as) (s : ∀ t xs, H t = some (.tup xs) → H' t = some (.tup xs)) : PlAt C H' ms as := ⟨h.1, fun i v e e1 e2 => (h.2 i v e e1 e2).same s⟩
theorem PlAt.snoc {ms : List V} (h : PlAt C H ms as) {a : α} {v : V} (hv : C.isP H a v) : PlAt C H (ms ++ [v]) (as ++ [a]) := by
  refine ⟨by simp [h.1], fun i v' e' e1 e2 => ?_⟩
  rcases get_snoc e1 with ⟨h1, e1⟩ | ⟨h1, e1⟩ <;> rcases get_snoc e2 with ⟨h2, e2⟩ | ⟨h2, e2⟩
  · exact h.2 i v' e' e1 e2
  · have := h.1; omega
  · have := h.1; omega
  · subst e1 e2; exact hv
end
theorem sc_lay_out : FnScope ["start", "exits", "lit", "numbers", "places", "rooms", "here", "ahead", "there"] ["start", "exits", "lit"] (defScope (top 1)) := ⟨rfl, rfl, rfl, by decide +kernel, rfl, by decide +kernel, by decide +kernel⟩
theorem ok_lay {k0 : Nat} {α : Type} {C : Plc α} {G : Gr α} {lit : α → Bool} (F : Fun K "lay_out" "lay_out" (top 1) f fd) (T : Blt mg) : FnOk P w K mg base CX0 (k0 + 1) f fd ["start", "exits", "lit"] (spLay P w K mg base k0 C G lit) := by
  refine F.ok sc_lay_out (fun vs H Q E h => ?_) (fun cdv A outer s H vs Q E hr h => ?_)
  · obtain ⟨v0, fe, fl, Re, Rl, rfl, _⟩ := h
    rfl
  · obtain ⟨v0, fe, fl, Re, Rl, rfl, hI, kS⟩ := h
    have hu := hu_of hr
    have inj := hI.inj
    have few := hI.few
    refine ⟨_, (pss_cons (ps_set (i := 3) sc_lay_out.nd rfl (Or.inl rfl) (pe_disp1 C.k (Nat.lt_of_succ_lt hu) (pv 0) pe_int))
      (pss_cons (ps_set (i := 4) sc_lay_out.nd rfl (Or.inl rfl) (pe_lst (pa_cons (pv 0) pa_nil)))
      (pss_cons (ps_set (i := 5) sc_lay_out.nd rfl (Or.inl rfl) (pe_lst pa_nil))
      (pss_cons (ps_while PassesOwn.never (pt_cmpR op_lt (pe_callB call_len_seq (by rfl) T.len PySem.boot_len (pa_cons (pv 5) pa_nil)) (pe_callB call_len_seq (by rfl) T.len PySem.boot_len (pa_cons (pv 4) pa_nil)) (nomark _))
        (pss_cons (ps_set (i := 6) sc_lay_out.nd rfl (Or.inl rfl) (pe_ix ix_list (pv 4) (pe_callB call_len_seq (by rfl) T.len PySem.boot_len (pa_cons (pv 5) pa_nil)) (fun _ _ => rfl)))
        (pss_cons (ps_set (i := 7) sc_lay_out.nd rfl (Or.inl rfl) (pe_lst pa_nil))
        (pss_cons (ps_for PassesOwn.never rfl (pi_seq (pe_callV (i := 1) hr rfl (Or.inl rfl) (pa_cons (pv 6) pa_nil))) (pg_name (i := 8) sc_lay_out.nd rfl (Or.inl rfl))
          (pss_cons (ps_if (pt_cmp (pc_dnotin hu (pv 8) (pv 3)))
            (pss_cons (ps_dput hu (pv 3) (pv 8) (pe_callB call_len_seq (by rfl) T.len PySem.boot_len (pa_cons (pv 4) pa_nil)) rfl)
            (pss_one (ps_expr (pe_bm PySem.F.plainAttrs_list PySem.F.slot_list_append PySem.F.type_list_append mt_append (pv 4) (pa_cons (pv 8) pa_nil)))))
            pss_nil)
          (pss_one (ps_expr (pe_bm PySem.F.plainAttrs_list PySem.F.slot_list_append PySem.F.type_list_append mt_append (pv 7) (pa_cons (pe_dget hu (pv 3) (pv 8) (fun _ _ => rfl)) pa_nil))))))
        (pss_one (ps_expr (pe_bm PySem.F.plainAttrs_list PySem.F.slot_list_append PySem.F.type_list_append mt_append (pv 5) (pa_cons (pe_tup (pa_cons (pe_ix ix_list (pv 7) pe_int (fun _ _ => rfl)) (pa_cons (pe_ix ix_list (pv 7) pe_int (fun _ _ => rfl)) (pa_cons (pe_callV (i := 2) hr rfl (Or.inl rfl) (pa_cons (pv 6) pa_nil)) pa_nil)))) pa_nil))))))))
      (pss_one (ps_ret (pv 5))))))), ?_⟩
    -- numbers = {start: 0}; places = [start]; rooms = []
    refine fun d hd => ⟨_, rfl, upd_same, C.key G.s0, hI.p0.same fun t xs z => by rw [upd_ne (ne_of_none z hd)]; exact z, ?_⟩
    rw [upd_upd]
    refine ⟨_, rfl, (by show 1 ≤ sizeLine; decide), fun m hm => ?_⟩
    have ndm : d ≠ m := fun z => by rw [← z, upd_same] at hm; cases hm
    have hm0 : H m = none := by rw [upd_ne (Ne.symm ndm)] at hm; exact hm
    have sst : Same H (upd (upd H d (C.k.mk [(C.key G.s0, .int 0)])) m (.lst [v0])) := (same_upd hd).put hm0
    have hd1 : upd (upd H d (C.k.mk [(C.key G.s0, .int 0)])) m (.lst [v0]) d = some (C.k.mk [(C.key G.s0, .int 0)]) := by rw [upd_ne ndm, upd_same]
    have hm1 : upd (upd H d (C.k.mk [(C.key G.s0, .int 0)])) m (.lst [v0]) m = some (.lst [v0]) := upd_same
    generalize upd (upd H d (C.k.mk [(C.key G.s0, .int 0)])) m (.lst [v0]) = H1 at sst hd1 hm1
    refine ⟨Nat.zero_le _, fun r hr1 => ?_⟩
    have ndr : d ≠ r := ne_of_none hd1 hr1
    have nmr : m ≠ r := ne_of_none hm1 hr1
    have hr0 : H r = none := sst.none hr1
    have s1 : Same H1 (upd H1 r (.lst [])) := same_upd hr1
    refine while_by (fun σ H2 => ∃ (as : List α) (rs : List Rm) (kvs : List (C.k.κ × V)) (ms : List V) (ps : List Addr) (v7 v8 v9 : Option V), σ = [some v0, some (.ref fe), some (.ref fl), some (.ref d), some (.ref m), some (.ref r), v7, v8, v9] ∧ Same H H2 ∧ H2 d = some (C.k.mk kvs) ∧ NumAt C kvs as ∧ H2 m = some (.lst ms) ∧ PlAt C H2 ms as ∧ H2 r = some (.lst (ps.map V.ref)) ∧ Rooms H2 ps rs ∧ Lay G lit as rs [] ∧ rs.length ≤ as.length)
      (fun σ H2 => match H2 r with | some (.lst xs) => G.B - xs.length | _ => 0)
      ⟨[G.s0], [], [(C.key G.s0, .int 0)], [v0], [], none, none, none, rfl, sst.trans s1, s1 _ _ hd1, ⟨rfl, fun i k v a e1 e2 => ?_⟩, s1 _ _ hm1, ⟨rfl, fun i v a e1 e2 => ?_⟩, upd_same, ⟨rfl, fun i p x e => by simp at e⟩, Lay.start G lit, Nat.zero_le _⟩ ?_ ?_
    · match i, e1, e2 with
      | 0, e1, e2 => cases e1; cases e2; exact ⟨rfl, rfl⟩
      | i + 1, e1, e2 => simp at e2
    · match i, e1, e2 with
      | 0, e1, e2 => cases e1; cases e2; exact hI.p0.same fun t xs z => s1 _ _ (sst _ _ z)
      | i + 1, e1, e2 => simp at e2
    · rintro σ H2 ⟨as, rs, kvs, ms, ps, v7, v8, v9, rfl, s2, hd2, hN2, hm2, hP2, hr2, hR2, hL, hle⟩
      have hal := hL.len
      have hpr : (ps.map V.ref).length = rs.length := by rw [List.length_map, hR2.1]
      refine ⟨_, rfl, r, _, rfl, .inl (SqL.of hr2), _, rfl, m, _, rfl, .inl (SqL.of hm2), _, _, rfl, rfl, _, rfl, ?_⟩
      rw [hpr, hP2.1]
      by_cases hlt : rs.length < as.length
      · refine ifT (decide_eq_true (by omega)) ?_
        have he : as[rs.length]? = some as[rs.length] := by simp [hlt]
        have hml : rs.length < ms.length := by rw [hP2.1]; exact hlt
        have hme : ms[rs.length]? = some ms[rs.length] := by simp [hml]
        have hPh := hP2.2 _ _ _ hme he
        have hUh : G.U as[rs.length] := hL.u _ (List.getElem_mem hlt)
        have hRh : G.Reach as[rs.length] := hL.rch _ (List.getElem_mem hlt)
        generalize ms[rs.length] = vh at hme hPh
        generalize as[rs.length] = here at he hPh hUh hRh
        refine ⟨_, rfl, _, rfl, r, _, rfl, .inl (SqL.of hr2), m, _, _, _, rfl, rfl, SqL.of hm2, (by rw [hpr]; exact atI_nat hme), ?_⟩
        refine ⟨Nat.zero_le _, fun q hq => ?_⟩
        have s3 : Same H2 (upd H2 q (.lst [])) := same_upd hq
        have hq0 : H q = none := s2.none hq
        have hq3 : upd H2 q (.lst []) q = some (.lst ([].map fun n : Nat => V.int (n : Int))) := upd_same
        have ndq : d ≠ q := ne_of_none hd2 hq
        have nmq : m ≠ q := ne_of_none hm2 hq
        have nrq : r ≠ q := ne_of_none hr2 hq
        have hd3 := s3 _ _ hd2
        have hm3 := s3 _ _ hm2
        have hr3 := s3 _ _ hr2
        have hR3 := hR2.same s3
        have hP3 := hP2.same fun t xs z => s3 _ _ z
        have hPh3 := hPh.same fun t xs z => s3 _ _ z
        have s23 := s2.trans s3
        generalize upd H2 q (.lst []) = H3 at s3 hq3 hd3 hm3 hr3 hR3 hP3 hPh3 s23
        -- for there in exits(here)
        refine ⟨fe, Re, spExS C G, rfl, hI.fe, hI.se _ _ hI.re s23, _, rfl, hI.se _ _ hI.re s23, here, vh, rfl, hUh, hPh3, fun t H4 vl vr s4 htt hvl hvr => ?_⟩
        have s24 := s23.trans s4
        obtain ⟨O, hO4, hOk, n1, n2, n3, n4⟩ : ∃ O, H4 t = some O ∧ (O = .lst [vl, vr] ∨ O = .tup [vl, vr]) ∧ t ≠ d ∧ t ≠ m ∧ t ≠ q ∧ t ≠ r := by
          rcases htt with ⟨h1, h2⟩ | h2
          · exact ⟨_, h2, .inl rfl, (ne_of_none hd3 h1).symm, (ne_of_none hm3 h1).symm, (ne_of_none hq3 h1).symm, (ne_of_none hr3 h1).symm⟩
          · exact ⟨_, h2, .inr rfl, ne_of h2 (s4 _ _ hd3) (fun z => Kd.nt _ z.symm), ne_of h2 (s4 _ _ hm3) (by intro z; cases z), ne_of h2 (s4 _ _ hq3) (by intro z; cases z), ne_of h2 (s4 _ _ hr3) (by intro z; cases z)⟩
        let Pv : Nat → L2.St → Hp → Prop := fun j σ H5 => ∃ (as : List α) (kvs : List (C.k.κ × V)) (ms : List V) (idx : List Nat) (v9 : Option V), σ = [some v0, some (.ref fe), some (.ref fl), some (.ref d), some (.ref m), some (.ref r), some vh, some (.ref q), v9] ∧ Same H H5 ∧ H5 d = some (C.k.mk kvs) ∧ NumAt C kvs as ∧ H5 m = some (.lst ms) ∧ PlAt C H5 ms as ∧ H5 r = some (.lst (ps.map V.ref)) ∧ Rooms H5 ps rs ∧ Lay G lit as rs idx ∧ as[rs.length]? = some here ∧
            H5 q = some (.lst (idx.map fun n : Nat => V.int (n : Int))) ∧ idx.length = j ∧ H5 t = some O ∧ C.isP H5 here vh ∧ C.isP H5 (G.nx here false) vl ∧ C.isP H5 (G.nx here true) vr ∧
            (∀ i, idx[0]? = some i → as[i]? = some (G.nx here false)) ∧ (∀ i, idx[1]? = some i → as[i]? = some (G.nx here true))
        have start : Pv 0 [some v0, some (.ref fe), some (.ref fl), some (.ref d), some (.ref m), some (.ref r), some vh, some (.ref q), v9] H4 := by
          refine ⟨as, kvs, ms, [], v9, rfl, s24, s4 _ _ hd3, hN2, s4 _ _ hm3, hP3.same fun t xs z => s4 _ _ z, s4 _ _ hr3, hR3.same s4, hL, he, s4 _ _ hq3, rfl, hO4, hPh3.same fun t xs z => s4 _ _ z, hvl, hvr, fun i e => by simp at e, fun i e => by simp at e⟩
        have fin : ∀ (D : L2.St → Hp → Prop), (∀ (as : List α) (kvs : List (C.k.κ × V)) (ms : List V) (i j : Nat) (v9 : Option V) (H5 : Hp), Same H H5 → H5 d = some (C.k.mk kvs) → NumAt C kvs as → H5 m = some (.lst ms) → PlAt C H5 ms as → H5 r = some (.lst (ps.map V.ref)) → Rooms H5 ps rs → Lay G lit as rs [i, j] → as[rs.length]? = some here → H5 q = some (.lst [.int (i : Int), .int (j : Int)]) → C.isP H5 here vh → as[i]? = some (G.nx here false) → as[j]? = some (G.nx here true) →
            D [some v0, some (.ref fe), some (.ref fl), some (.ref d), some (.ref m), some (.ref r), some vh, some (.ref q), v9] H5) → ∀ σ H5, Pv 2 σ H5 → D σ H5 := by
          rintro D hD σ H5 ⟨as, kvs, ms, idx, v9, rfl, s5, hd5, hN5, hm5, hP5, hr5, hR5, hL5, he5, hq5, hil, _, hPh5, _, _, hi0, hi1⟩
          match idx, hil, hq5, hL5, hi0, hi1 with
          | [i, j], _, hq5, hL5, hi0, hi1 => exact hD as kvs ms i j v9 H5 s5 hd5 hN5 hm5 hP5 hr5 hR5 hL5 he5 hq5 hPh5 (hi0 i rfl) (hi1 j rfl)
        clear hal
        refine ⟨t, rfl, for_seq hOk Pv start (fun j σ H5 _ ⟨_, _, _, _, _, _, _, _, _, _, _, _, _, _, _, _, _, z, _⟩ => z) ?_ ?_⟩
        · rintro j y σ H5 hy ⟨as, kvs, ms, idx, v9, rfl, s5, hd5, hN5, hm5, hP5, hr5, hR5, hL5, he5, hq5, hil, ht5, hPh5, hvl5, hvr5, hi0, hi1⟩
          obtain ⟨bb, hyP, hjb⟩ : ∃ bb : Bool, C.isP H5 (G.nx here bb) y ∧ j = (if bb then 1 else 0) := by
            match j, hy with
            | 0, hy => cases hy; exact ⟨false, hvl5, rfl⟩
            | 1, hy => cases hy; exact ⟨true, hvr5, rfl⟩
            | j + 2, hy => simp at hy
          have hUn : G.U (G.nx here bb) := G.cl _ _ hUh
          have hal5 := hL5.len
          refine ⟨_, rfl, _, rfl, d, _, rfl, Kd.get hd5 hyP, _, rfl, ?_⟩
          by_cases hin : G.nx here bb ∈ as
          case' pos =>
            obtain ⟨i, hi⟩ := List.getElem?_of_mem hin
            have hv := hN5.get inj hL5.u hL5.nd hi
            refine ifF (by rw [hv]; rfl) ?_
            have hL6 := hL5.old (List.getElem?_eq_some_iff.mp hi).1
            have hi6 := hi
            have s6 := s5
            have hd6 := hd5
            have hN6 := hN5
            have hm6 := hm5
            have hP6 := hP5
            have hr6 := hr5
            have hR6 := hR5
            have he6 := he5
            have hq6 := hq5
            have ht6 := ht5
            have hPh6 := hPh5
            have hvl6 := hvl5
            have hvr6 := hvr5
            have hyP6 := hyP
            have hi06 := hi0
            have hi16 := hi1
          case' neg =>
            have hno : valV kvs (C.key (G.nx here bb)) = none := valV_no (hN5.no inj hL5.u hUn hin)
            refine ifT (by rw [hno]; rfl) ?_
            refine ⟨_, rfl, m, _, rfl, .inl (SqL.of hm5), ?_⟩
            rw [hP5.1]
            have hL6 := hL5.add (hRh.step bb) hUn hin
            have hal6 := hL6.len
            rw [List.length_append] at hal6
            have hal7 : as.length + 1 ≤ G.B := hal6
            refine ⟨_, rfl, _, rfl, d, _, rfl, Kd.put hd5 hyP (by rw [hN5.1]; omega), ?_⟩
            have tu6 : ∀ t xs, H5 t = some (.tup xs) → upd H5 d (C.k.mk (putK kvs (C.key (G.nx here bb)) (.int (as.length : Int)))) t = some (.tup xs) := fun t xs z => by rw [upd_ne (ne_of z hd5 (fun y => Kd.nt _ y.symm))]; exact z
            have hm6' : upd H5 d (C.k.mk (putK kvs (C.key (G.nx here bb)) (.int (as.length : Int)))) m = some (.lst ms) := by rw [upd_ne ndm.symm]; exact hm5
            refine ⟨_, rfl, .inl ⟨rfl, _, SqL.of hm6'⟩, _, rfl, m, _, _, rfl, rfl, hm6', (by rw [hP5.1]; omega), ?_⟩
            have tu7 : ∀ t xs, H5 t = some (.tup xs) → upd (upd H5 d (C.k.mk (putK kvs (C.key (G.nx here bb)) (.int (as.length : Int))))) m (.lst (ms ++ [y])) t = some (.tup xs) := fun t xs z => by rw [upd_ne (ne_of (tu6 _ _ z) hm6' (by intro z; cases z))]; exact tu6 _ _ z
            have s6 : Same H (upd (upd H5 d (C.k.mk (putK kvs (C.key (G.nx here bb)) (.int (as.length : Int))))) m (.lst (ms ++ [y]))) := (s5.put hd).put hm0
            have hd6 : upd (upd H5 d (C.k.mk (putK kvs (C.key (G.nx here bb)) (.int (as.length : Int))))) m (.lst (ms ++ [y])) d = some (C.k.mk (putK kvs (C.key (G.nx here bb)) (.int (as.length : Int)))) := by rw [upd_ne ndm, upd_same]
            have hN6 := hN5.put inj hL5.u hUn hin
            have hm6 : upd (upd H5 d (C.k.mk (putK kvs (C.key (G.nx here bb)) (.int (as.length : Int))))) m (.lst (ms ++ [y])) m = some (.lst (ms ++ [y])) := upd_same
            have hP6 := (hP5.same tu7).snoc (hyP.same tu7)
            have hr6 : upd (upd H5 d (C.k.mk (putK kvs (C.key (G.nx here bb)) (.int (as.length : Int))))) m (.lst (ms ++ [y])) r = some (.lst (ps.map V.ref)) := by rw [upd_ne nmr.symm, upd_ne ndr.symm]; exact hr5
            have hR6 : Rooms (upd (upd H5 d (C.k.mk (putK kvs (C.key (G.nx here bb)) (.int (as.length : Int))))) m (.lst (ms ++ [y]))) ps rs := ⟨hR5.1, fun i p x e1 e2 => tu7 _ _ (hR5.2 i p x e1 e2)⟩
            have he6 := get_app (m := [G.nx here bb]) he5
            have hq6 : upd (upd H5 d (C.k.mk (putK kvs (C.key (G.nx here bb)) (.int (as.length : Int))))) m (.lst (ms ++ [y])) q = some (.lst (idx.map fun n : Nat => V.int (n : Int))) := by rw [upd_ne nmq.symm, upd_ne ndq.symm]; exact hq5
            have ht6 : upd (upd H5 d (C.k.mk (putK kvs (C.key (G.nx here bb)) (.int (as.length : Int))))) m (.lst (ms ++ [y])) t = some O := by rw [upd_ne n2, upd_ne n1]; exact ht5
            have hPh6 := hPh5.same tu7
            have hvl6 := hvl5.same tu7
            have hvr6 := hvr5.same tu7
            have hyP6 := hyP.same tu7
            have hi06 : ∀ i, idx[0]? = some i → (as ++ [G.nx here bb])[i]? = some (G.nx here false) := fun i e => get_app (hi0 i e)
            have hi16 : ∀ i, idx[1]? = some i → (as ++ [G.nx here bb])[i]? = some (G.nx here true) := fun i e => get_app (hi1 i e)
            have hi6 : (as ++ [G.nx here bb])[as.length]? = some (G.nx here bb) := by simp
            have hv := hN6.get inj hL6.u hL6.nd hi6
            generalize upd (upd H5 d (C.k.mk (putK kvs (C.key (G.nx here bb)) (.int (as.length : Int))))) m (.lst (ms ++ [y])) = H6 at s6 hd6 hm6 hP6 hr6 hR6 hq6 ht6 hPh6 hvl6 hvr6 hyP6
          all_goals
            refine ⟨_, rfl, .inl ⟨rfl, _, SqL.of hq6⟩, _, rfl, _, rfl, d, _, rfl, (by have g := Kd.get hd6 hyP6; rw [hv] at g; exact g), q, _, _, rfl, rfl, hq6, (by rw [List.length_map, hil, hjb]; cases bb <;> decide), ?_⟩
            refine ⟨_, _, _, _, _, rfl, s6.put hq0, by rw [upd_ne ndq]; exact hd6, hN6, by rw [upd_ne nmq]; exact hm6, hP6.same fun t xs z => by rw [upd_ne (ne_of z hq6 (by intro z; cases z))]; exact z, by rw [upd_ne nrq]; exact hr6, ⟨hR6.1, fun i p x e1 e2 => by rw [upd_ne (ne_of (hR6.2 i p x e1 e2) hq6 (by intro z; cases z))]; exact hR6.2 i p x e1 e2⟩, hL6, he6, by rw [upd_same, List.map_append]; rfl, by rw [List.length_append, hil]; rfl, ?_, hPh6.same fun t xs z => by rw [upd_ne (ne_of z hq6 (by intro z; cases z))]; exact z, hvl6.same fun t xs z => by rw [upd_ne (ne_of z hq6 (by intro z; cases z))]; exact z, hvr6.same fun t xs z => by rw [upd_ne (ne_of z hq6 (by intro z; cases z))]; exact z, fun i e => ?_, fun i e => ?_⟩
            · rw [upd_ne n3]
              exact ht6
            · cases bb with
              | false =>
                have h0 : idx = [] := List.length_eq_zero_iff.mp (by rw [hil, hjb]; rfl)
                subst h0
                cases e
                exact hi6
              | true =>
                have h1 : idx.length = 1 := by rw [hil, hjb]; rfl
                rw [List.getElem?_append_left (by omega)] at e
                exact hi06 i e
            · cases bb with
              | false =>
                have h0 : idx = [] := List.length_eq_zero_iff.mp (by rw [hil, hjb]; rfl)
                subst h0
                simp at e
              | true =>
                have h1 : idx.length = 1 := by rw [hil, hjb]; rfl
                rw [List.getElem?_append_right (by omega), h1] at e
                simp at e
                subst e
                exact hi6
        · refine fin _ fun as kvs ms i j v9 H5 s5 hd5 hN5 hm5 hP5 hr5 hR5 hL5 he5 hq5 hPh5 hi0 hi1 => ?_
          have hal5 := hL5.len
          have hlt5 : rs.length < as.length := (List.getElem?_eq_some_iff.mp he5).1
          have app : ∀ (H6 : Hp), Same H5 H6 → ∀ (n : Nat), True := fun _ _ _ => trivial
          have done : ∀ (t2 : Addr) (H6 : Hp), Same H5 H6 → H6 t2 = some (.tup [.int (i : Int), .int (j : Int), .bl (lit here)]) → (∃ (as : List α) (rs : List Rm) (kvs : List (C.k.κ × V)) (ms : List V) (ps' : List Addr) (v7 v8 v9' : Option V), [some v0, some (.ref fe), some (.ref fl), some (.ref d), some (.ref m), some (.ref r), some vh, some (.ref q), v9] = [some v0, some (.ref fe), some (.ref fl), some (.ref d), some (.ref m), some (.ref r), v7, v8, v9'] ∧ Same H (upd H6 r (.lst (ps.map V.ref ++ [.ref t2]))) ∧ upd H6 r (.lst (ps.map V.ref ++ [.ref t2])) d = some (C.k.mk kvs) ∧ NumAt C kvs as ∧ upd H6 r (.lst (ps.map V.ref ++ [.ref t2])) m = some (.lst ms) ∧ PlAt C (upd H6 r (.lst (ps.map V.ref ++ [.ref t2]))) ms as ∧ upd H6 r (.lst (ps.map V.ref ++ [.ref t2])) r = some (.lst (ps'.map V.ref)) ∧ Rooms (upd H6 r (.lst (ps.map V.ref ++ [.ref t2]))) ps' rs ∧ Lay G lit as rs [] ∧ rs.length ≤ as.length) ∧
              (match upd H6 r (.lst (ps.map V.ref ++ [.ref t2])) r with | some (.lst xs) => G.B - xs.length | _ => 0) < (match H2 r with | some (.lst xs) => G.B - xs.length | _ => 0) := fun t2 H6 s6 ht2 => by
            have hr6 := s6 _ _ hr5
            have tu : ∀ t xs, H6 t = some (.tup xs) → upd H6 r (.lst (ps.map V.ref ++ [.ref t2])) t = some (.tup xs) := fun t xs z => by rw [upd_ne (ne_of z hr6 (by intro z; cases z))]; exact z
            refine ⟨⟨as, rs ++ [⟨i, j, lit here⟩], kvs, ms, ps ++ [t2], _, _, _, rfl, (s5.trans s6).put hr0, by rw [upd_ne ndr]; exact s6 _ _ hd5, hN5, by rw [upd_ne nmr]; exact s6 _ _ hm5, (hP5.same fun t xs z => s6 _ _ z).same tu, by rw [upd_same, List.map_append]; rfl, ?_, hL5.put he5 hi0 hi1, by rw [List.length_append]; exact hlt5⟩, ?_⟩
            · refine Rooms.snoc ⟨hR5.1, fun i p x e1 e2 => tu _ _ (s6 _ _ (hR5.2 i p x e1 e2))⟩ (tu _ _ ht2)
            · rw [upd_same, hr2]
              show G.B - (ps.map V.ref ++ [V.ref t2]).length < G.B - (ps.map V.ref).length
              rw [List.length_append, hpr]
              show G.B - (rs.length + 1) < G.B - rs.length
              omega
          have lits : ∀ (Qx : VK), (∀ (H6 : Hp), Same H5 H6 → Qx (.bl (lit here)) H6) → ∃ f R sp, ([some v0, some (.ref fe), some (.ref fl), some (.ref d), some (.ref m), some (.ref r), some vh, some (.ref q), v9] : L2.St)[2]? = some (some (.ref f)) ∧ FvOk P w K mg base k0 f R sp ∧ R H5 ∧ R H5 ∧ sp [vh] H5 Qx fun _ _ _ => False := fun Qx hQ =>
            ⟨fl, Rl, spWant C G lit, rfl, hI.fl, hI.sl _ _ hI.rl s5, hI.sl _ _ hI.rl s5, here, vh, rfl, hUh, hPh5, hQ⟩
          have hgo : ∀ (pr : Prop), pr → pr := fun _ h => h
          have hr5l : (ps.map V.ref).length < sizeLine := by rw [hpr]; omega
          refine ⟨_, rfl, .inl ⟨rfl, _, SqL.of hr5⟩, _, rfl, q, _, _, _, rfl, rfl, SqL.of hq5, rfl, _, rfl, q, _, _, _, rfl, rfl, SqL.of hq5, rfl, fl, Rl, spWant C G lit, rfl, hI.fl, hI.sl _ _ hI.rl s5, _, rfl, hI.sl _ _ hI.rl s5, here, vh, rfl, hUh, hPh5, fun H6 s6 => ?_⟩
          refine ⟨(by show 3 ≤ sizeLine; decide), fun t2 ht2 => ?_⟩
          have s7 : Same H6 (upd H6 t2 (.tup [.int (i : Int), .int (j : Int), .bl (lit here)])) := same_upd ht2
          refine ⟨r, _, _, rfl, rfl, s7 _ _ (s6 _ _ hr5), hr5l, ?_⟩
          exact done t2 _ (s6.trans s7) upd_same
      · refine ifF (decide_eq_false (by omega)) ?_
        exact ⟨_, rfl, kS r ps rs as H2 hr0 s2 ⟨hr2, hR2⟩ ⟨hL, by omega⟩⟩
    · intro σ H2 Q1 Q2 hq hc
      obtain ⟨x, e1, p, ys, e3, e4, x2, e5, p2, ys2, e6, e7, i, j, e8, e9, b, e10, q1⟩ := hc
      exact ⟨x, e1, p, ys, e3, e4, x2, e5, p2, ys2, e6, e7, i, j, e8, e9, b, e10, hq _ _ q1⟩
end
end Law

set_option maxHeartbeats 8000000
namespace Law
open PySem L2 Hs PyProof.Rows
section
variable {P : Program} {w : World} {K : PySem.W.Frag} {mg : Str → Option Value} {base : Heap} {f : Addr} {fd : FuncData}
theorem andR {c1 c2 : Bool} {T : Prop} {Q : VK} {H : Hp} (ht : Q (.bl c2) H → T) (h : Q (.bl (c1 && c2)) H) : if c1 = true then T else Q (.bl false) H := by
  cases c1
  · rw [if_neg (by decide)]; exact h
  · rw [if_pos rfl]; exact ht h
theorem orR {c1 c2 : Bool} {T : Prop} {Q : VK} {H : Hp} (ht : Q (.bl c2) H → T) (h : Q (.bl (c1 || c2)) H) : if c1 = true then Q (.bl true) H else T := by
  cases c1
  · rw [if_neg (by decide)]; exact ht h
  · rw [if_pos rfl]; exact h
/-! ### opposite -/
def oppR (r : Rm) : Rm := ⟨r.l, r.r, !r.lit⟩
theorem opp_wf {hs : List Rm} (h : Wf hs) : Wf (hs.map oppR) := by
  refine ⟨by simpa using h.ne, fun r hr => ?_⟩
  obtain ⟨q, hq, rfl⟩ := List.mem_map.mp hr
  rw [List.length_map]
  exact h.ex q hq
theorem opp_stp (hs : List Rm) (i : Nat) (b : Bool) : stp (hs.map oppR) i b = stp hs i b := by
  unfold stp
  rw [List.getElem?_map]
  cases hs[i]? <;> rfl
theorem opp_led (hs : List Rm) : ∀ (w : List Bool) (i : Nat), led (hs.map oppR) i w = led hs i w
  | [], i => rfl
  | b :: w, i => by
    show led (hs.map oppR) (stp (hs.map oppR) i b) w = led hs (stp hs i b) w
    rw [opp_stp, opp_led hs w]
theorem opp_lit {hs : List Rm} {i : Nat} (hi : i < hs.length) : litAt (hs.map oppR) i = !litAt hs i := by
  unfold litAt
  rw [List.getElem?_map]
  have : hs[i]? = some hs[i] := by simp [hi]
  rw [this]
  rfl
theorem nd_c3 : (["left", "right", "lit"] : List Str).Nodup := by decide +kernel
/-- a comprehension that makes a room of the parts of each room -/
theorem comp_rooms3 {g0 : Rm → Rm} {H2 : Hp} {l D : Addr} {ps : List Addr} {hs : List Rm} {te : TE} {σ0 : L2.St} {Q : Hp → Prop} (hh : HouseAt H2 l ps hs) (hn : hs.length ≤ 1000) (hD : H2 D = none) (hσ : σ0 = [none, none, none])
    (hte : ∀ (r : Rm) (H5 : Hp) (Q : VK), (∀ q, H5 q = none → Q (.ref q) (upd H5 q (.tup (rmV (g0 r))))) → te [some (.int r.l), some (.int r.r), some (.bl r.lit)] H5 Q)
    (hq : ∀ (qs : List Addr) (H5 : Hp), Same H2 H5 → HouseAt H5 D qs (hs.map g0) → Q H5) : CompW (Itl K l) (gTup K 3 (gCons (gName 0) (gCons (gName 1) (gCons (gName 2) gNil)))) (fun _ H Q => Q true H) te D σ0 (upd H2 D (.lst [])) Q := by
  subst hσ
  refine comp_list (K := K) (a := l) (xs := ps.map V.ref) (fun j σ H5 => ∃ (v0 v1 v2 : Option V) (qs : List Addr), σ = [v0, v1, v2] ∧ Same H2 H5 ∧ H5 D = some (.lst (qs.map V.ref)) ∧ Rooms H5 qs ((hs.map g0).take j))
    ⟨none, none, none, [], rfl, same_upd hD, upd_same, rfl, fun i p r e => by simp at e⟩ (fun j σ H5 _ ⟨_, _, _, _, _, s, _⟩ => SqL.of (s _ _ hh.ob)) ?_ ?_
  · rintro j y σ H5 hy ⟨v0, v1, v2, qs, rfl, s5, hD5, hR⟩
    have hj : j < hs.length := by
      have := (List.getElem?_eq_some_iff.mp hy).1
      rw [List.length_map, hh.rm.1] at this
      exact this
    have hr0 : hs[j]? = some hs[j] := by simp [hj]
    obtain ⟨p, hp, hpt, _⟩ := hh.get hr0
    generalize hs[j] = r at hr0 hpt
    obtain rfl : y = V.ref p := by
      rw [List.getElem?_map, hp] at hy
      exact (Option.some.inj hy).symm
    refine ⟨p, _, rfl, SqT.of (s5 _ _ hpt), rfl, _, _, rfl, _, _, rfl, _, _, rfl, rfl, ?_⟩
    dsimp only [gName]
    rw [if_pos rfl]
    refine hte r H5 _ fun q hq => ?_
    have nDq : D ≠ q := ne_of_none hD5 hq
    have hql : qs.length ≤ 1000 := by rw [hR.1, List.length_take, List.length_map]; omega
    refine ⟨_, by rw [upd_ne nDq]; exact hD5, by rw [List.length_map]; exact small1000 hql, _, _, _, qs ++ [q], rfl, (s5.upd hq).put hD, by rw [upd_same, List.map_append]; rfl, ?_⟩
    rw [List.take_add_one, List.getElem?_map, hr0]
    refine Rooms.snoc ⟨hR.1, fun i x z e1 e2 => ?_⟩ ?_
    · have hx := hR.2 i x z e1 e2
      have n1 : x ≠ D := fun y => by rw [y, hD5] at hx; cases hx
      rw [upd_ne n1, upd_ne (ne_of_none hx hq)]
      exact hx
    · rw [upd_ne nDq.symm, upd_same]
  · rintro σ H5 ⟨v0, v1, v2, qs, rfl, s5, hD5, hR⟩
    rw [List.length_map, hh.rm.1, List.take_of_length_le (by rw [List.length_map]; exact Nat.le_refl _)] at hR
    exact hq qs H5 s5 ⟨hD5, hR⟩
def spOpp : Sp := fun vs H Q _ => ∃ (a : Addr) (ps : List Addr) (hs : List Rm), vs = [.ref a] ∧ HouseAt H a ps hs ∧ hs.length ≤ 1000 ∧ ∀ (l : Addr) (qs : List Addr) (H' : Hp), H l = none → Same H H' → HouseAt H' l qs (hs.map oppR) → Q (.ref l) H'
theorem sc_opposite : FnScope ["house"] ["house"] (defScope (top 9)) := ⟨rfl, rfl, rfl, by decide +kernel, rfl, by decide +kernel, by decide +kernel⟩
theorem ok_opp (F : Fun K "opposite" "opposite" (top 9) f fd) : FnOk P w K mg base CX0 1 f fd ["house"] spOpp := by
  refine F.ok sc_opposite (fun vs H Q E h => ?_) (fun cdv A outer s H vs Q E hr h => ?_)
  · obtain ⟨a, ps, hs, rfl, _⟩ := h
    rfl
  · obtain ⟨a, ps, hs, rfl, hh, hn, k⟩ := h
    refine ⟨_, (pss_one (ps_ret (pe_comp (N' := ["left", "right", "lit"]) (cap := [none, none, none]) (cl := []) (g := gTup K 3 (gCons (gName 0) (gCons (gName 1) (gCons (gName 2) gNil)))) rfl ?cs1 (pi_list (pv 0)) (by exact fun _ _ _ _ => (pg_tup rfl (pgs_cons (pg_name (i := 0) nd_c3 rfl (Or.inl rfl)) (pgs_cons (pg_name (i := 1) nd_c3 rfl (Or.inl rfl)) (pgs_cons (pg_name (i := 2) nd_c3 rfl (Or.inl rfl)) pgs_nil))))) (by exact fun _ _ _ _ => pf_nil) (by exact fun _ _ _ _ => (pe_tup (pa_cons (pv 0) (pa_cons (pv 1) (pa_cons (pe_not (pv 2)) pa_nil)))))))), ?_⟩
    case cs1 =>
      refine ⟨rfl, by decide +kernel, by decide +kernel, by kernel_rfl, rfl, nd_c3, fun _ _ h => (by cases h), fun p hp hf => ?_, fun i x j h1 h2 => ?_⟩
      · have e : ∀ p ∈ ([((".0" : Str), NameKind.local), ("left", .local), ("right", .local), ("lit", .local)] : List (Str × NameKind)), p.2 ≠ .free := by decide +kernel
        exact absurd hf (e p hp)
      · match i, h1, h2 with
        | 0, _, h2 => cases h2
        | 1, _, h2 => cases h2
        | 2, _, h2 => cases h2
        | i + 3, h1, _ => cases h1
    refine ⟨_, rfl, a, rfl, ⟨_, SqL.of hh.ob⟩, fun D hD => ?_⟩
    refine comp_rooms3 (g0 := oppR) hh hn hD rfl (fun r H5 Q q => ?_) fun qs H5 s5 hh5 => k D qs H5 hD s5 hh5
    refine ⟨_, rfl, _, rfl, _, rfl, _, rfl, (by show 3 ≤ sizeLine; decide), fun q' hq' => ?_⟩
    exact q q' hq'
end
end Law

set_option maxHeartbeats 8000000
namespace Law
open PySem L2 Hs PyProof.Rows
section
variable {P : Program} {w : World} {K : PySem.W.Frag} {mg : Str → Option Value} {base : Heap} {f : Addr} {fd : FuncData}
def cPairs : Plc (Nat × Nat) := ⟨.t, fun p => [Sum.inl (p.1 : Int), Sum.inl (p.2 : Int)]⟩
theorem cPairs_inj (G : Gr (Nat × Nat)) : cPairs.Inj G := fun a b _ _ e => by
  have e : ([Sum.inl (a.1 : Int), Sum.inl (a.2 : Int)] : List Key) = [Sum.inl (b.1 : Int), Sum.inl (b.2 : Int)] := e
  injection e with e1 e2
  injection e2 with e2 _
  have h1 : (a.1 : Int) = (b.1 : Int) := Sum.inl.inj e1
  have h2 : (a.2 : Int) = (b.2 : Int) := Sum.inl.inj e2
  exact Prod.ext (by omega) (by omega)
theorem cPairs_is {H : Hp} {a : Nat × Nat} {v : V} : cPairs.isP H a v ↔ ∃ t, v = .ref t ∧ H t = some (.tup [.int (a.1 : Int), .int (a.2 : Int)]) := Iff.rfl
/-! ### exits_of_pair -/
def spExPair : Sp := fun vs H Q _ => ∃ (a b : Addr) (ps qs : List Addr) (hs gs : List Rm) (p : Nat × Nat) (v : V), vs = [.ref a, .ref b, v] ∧ HouseAt H a ps hs ∧ HouseAt H b qs gs ∧ p.1 < hs.length ∧ p.2 < gs.length ∧ cPairs.isP H p v ∧
  ∀ t H' vl vr, Same H H' → H' t = some (.tup [vl, vr]) → cPairs.isP H' (stp hs p.1 false, stp gs p.2 false) vl → cPairs.isP H' (stp hs p.1 true, stp gs p.2 true) vr → Q (.ref t) H'
theorem sc_exits_of_pair : FnScope ["one", "other", "pair", "first", "second"] ["one", "other", "pair"] (defScope (top 6)) := ⟨rfl, rfl, rfl, by decide +kernel, rfl, by decide +kernel, by decide +kernel⟩
theorem ok_expair {fe : Addr} {fde : FuncData} (F : Fun K "exits_of_pair" "exits_of_pair" (top 6) f fd) (Ex : Df K mg "exits_of" 3 ["house", "room"] fe fde) : FnOk P w K mg base CX0 2 f fd ["one", "other", "pair"] spExPair := by
  have G_exits : FnOk P w K mg base CX0 1 fe fde ["house", "room"] spExits := ok_exits Ex.fn
  refine F.ok sc_exits_of_pair (fun vs H Q E h => ?_) (fun cdv A outer s H vs Q E hr h => ?_)
  · obtain ⟨a, b, ps, qs, hs, gs, p, v, rfl, _⟩ := h
    rfl
  · obtain ⟨a, b, ps, qs, hs, gs, p, v, rfl, ha, hb, h1, h2, ⟨t, rfl, ht⟩, k⟩ := h
    have ht : H t = some (.tup [.int (p.1 : Int), .int (p.2 : Int)]) := ht
    have e1 : hs[p.1]? = some hs[p.1] := by simp [h1]
    have e2 : gs[p.2]? = some gs[p.2] := by simp [h2]
    have st1 : ∀ b, stp hs p.1 b = if b then hs[p.1].r else hs[p.1].l := fun b => by rw [stp, e1]
    have st2 : ∀ b, stp gs p.2 b = if b then gs[p.2].r else gs[p.2].l := fun b => by rw [stp, e2]
    generalize hs[p.1] = r1 at e1 st1
    generalize gs[p.2] = r2 at e2 st2
    refine ⟨_, (pss_cons (ps_set (i := 3) sc_exits_of_pair.nd rfl (Or.inl rfl) (pe_call G_exits hr rfl Ex.m Ex.fn.kp Ex.b .nil pass0 (pa_cons (pv 0) (pa_cons (pe_ix ix_tup (pv 2) pe_int (fun _ _ => rfl)) pa_nil))))
      (pss_cons (ps_set (i := 4) sc_exits_of_pair.nd rfl (Or.inl rfl) (pe_call G_exits hr rfl Ex.m Ex.fn.kp Ex.b .nil pass0 (pa_cons (pv 1) (pa_cons (pe_ix ix_tup (pv 2) pe_int (fun _ _ => rfl)) pa_nil))))
      (pss_one (ps_ret (pe_tup (pa_cons (pe_tup (pa_cons (pe_ix ix_tup (pv 3) pe_int (fun _ _ => rfl)) (pa_cons (pe_ix ix_tup (pv 4) pe_int (fun _ _ => rfl)) pa_nil))) (pa_cons (pe_tup (pa_cons (pe_ix ix_tup (pv 3) pe_int (fun _ _ => rfl)) (pa_cons (pe_ix ix_tup (pv 4) pe_int (fun _ _ => rfl)) pa_nil))) pa_nil))))))), ?_⟩
    refine ⟨_, rfl, _, rfl, t, _, _, _, rfl, rfl, SqT.of ht, rfl, a, ps, hs, p.1, r1, rfl, ha, e1, fun x hx => ?_⟩
    have s1 : Same H (upd H x (.tup [.int r1.l, .int r1.r])) := same_upd hx
    have hx1 : upd H x (.tup [.int r1.l, .int r1.r]) x = some (.tup [.int r1.l, .int r1.r]) := upd_same
    generalize upd H x (.tup [.int r1.l, .int r1.r]) = H1 at s1 hx1
    refine ⟨_, rfl, _, rfl, t, _, _, _, rfl, rfl, SqT.of (s1 _ _ ht), rfl, b, qs, gs, p.2, r2, rfl, hb.same s1, e2, fun y hy => ?_⟩
    have s2 : Same H1 (upd H1 y (.tup [.int r2.l, .int r2.r])) := same_upd hy
    have hy2 : upd H1 y (.tup [.int r2.l, .int r2.r]) y = some (.tup [.int r2.l, .int r2.r]) := upd_same
    generalize upd H1 y (.tup [.int r2.l, .int r2.r]) = H2 at s2 hy2
    have hx2 := s2 _ _ hx1
    refine ⟨_, rfl, x, _, _, _, rfl, rfl, SqT.of hx2, rfl, _, rfl, y, _, _, _, rfl, rfl, SqT.of hy2, rfl, (by show 2 ≤ sizeLine; decide), fun u hu => ?_⟩
    have s3 : Same H2 (upd H2 u (.tup [.int r1.l, .int r2.l])) := same_upd hu
    have hu3 : upd H2 u (.tup [.int r1.l, .int r2.l]) u = some (.tup [.int r1.l, .int r2.l]) := upd_same
    generalize upd H2 u (.tup [.int r1.l, .int r2.l]) = H3 at s3 hu3
    refine ⟨_, rfl, x, _, _, _, rfl, rfl, SqT.of (s3 _ _ hx2), rfl, _, rfl, y, _, _, _, rfl, rfl, SqT.of (s3 _ _ hy2), rfl, (by show 2 ≤ sizeLine; decide), fun z hz => ?_⟩
    have s4 : Same H3 (upd H3 z (.tup [.int r1.r, .int r2.r])) := same_upd hz
    have hz4 : upd H3 z (.tup [.int r1.r, .int r2.r]) z = some (.tup [.int r1.r, .int r2.r]) := upd_same
    generalize upd H3 z (.tup [.int r1.r, .int r2.r]) = H4 at s4 hz4
    refine ⟨(by show 2 ≤ sizeLine; decide), fun q hq => ?_⟩
    have s5 : Same H4 (upd H4 q (.tup [.ref u, .ref z])) := same_upd hq
    refine k q _ (.ref u) (.ref z) ((((s1.trans s2).trans s3).trans s4).trans s5) upd_same ⟨u, rfl, ?_⟩ ⟨z, rfl, ?_⟩
    · show _ = some (HO.tup [.int ((stp hs p.1 false : Nat) : Int), .int ((stp gs p.2 false : Nat) : Int)])
      rw [st1, st2]
      exact s5 _ _ (s4 _ _ hu3)
    · show _ = some (HO.tup [.int ((stp hs p.1 true : Nat) : Int), .int ((stp gs p.2 true : Nat) : Int)])
      rw [st1, st2]
      exact s5 _ _ hz4
/-! ### exits_in_pairs -/
def lamP : Expr := retE (defBody (top 7))
theorem sc_exits_in_pairs : FnScope ["one", "other"] ["one", "other"] (defScope (top 7)) := ⟨rfl, rfl, rfl, by decide +kernel, rfl, by decide +kernel, by decide +kernel⟩
theorem sc_lamP : CloScope ["pair", "other", "one"] ["pair"] ["other", "one"] (lamScope lamP) := ⟨rfl, rfl, rfl, by decide +kernel, by decide +kernel, by decide +kernel, rfl, by decide +kernel, by decide +kernel⟩
def qP : Str := ("exits_in_pairs" : Str) ++ ".<locals>." ++ "<lambda>"
def capP (c d a b : Addr) : List Cap := [⟨"other", d, .ref b⟩, ⟨"one", c, .ref a⟩]
def spExIP (tabs : Tbs) : Sp := fun vs H Q _ => ∃ (a b : Addr), vs = [.ref a, .ref b] ∧ TB tabs H ∧ ∀ g c d H', c ≠ d → SamT H H' → TB tabs H' → Lam H' g qP (lamArgs lamP) (lamBody lamP) (lamScope lamP) (capC (capP c d a b)) → Caps H' (capP c d a b) → Q (.ref g) H'
theorem ok_exip {c Pt : Addr} {tabs : Tbs} (F : Fun K "exits_in_pairs" "exits_in_pairs" (top 7) f fd) (M : Mkr base fd tabs c Pt (lamQs "exits_in_pairs")) (hB : BMain mg base) (nd : (tabs.map (·.1)).Nodup) : FnOk P w K mg base CX0 1 f fd ["one", "other"] (spExIP tabs) := by
  refine okR F M.code sc_exits_in_pairs (e := lamP) (pos := retPos (defBody (top 7))) rfl (fun n => [(0, n + 1), (1, n + 1 + 1)]) (fun n p hp => ?_) (fun vs H Q E h => ?_) fun A outer s H vs Q E hr h => ?_
  · rcases List.mem_cons.mp hp with hp | hp
    · rw [hp]
      exact ⟨"one", rfl, rfl, rfl⟩
    · rw [List.mem_singleton.mp hp]
      exact ⟨"other", rfl, rfl, rfl⟩
  · obtain ⟨a, b, rfl, _⟩ := h
    rfl
  · obtain ⟨a, b, rfl, hT, k⟩ := h
    refine ⟨_, (pe_lamT (c := c) (P := Pt) (qs := lamQs "exits_in_pairs") (clos := [("other", s.heap.objs.size + 1 + 1), ("one", s.heap.objs.size + 1)]) M.hd rfl hB (by kernel_rfl) rfl), ?_⟩
    refine ⟨hT _ M.mem, fun g H1 hg s1 hT1 hL => ?_⟩
    intro Fz hF hFv
    have s2 : SamT H H1 := s1.toSam (let ⟨ps, e, _⟩ := hT _ M.mem; ⟨ps, e⟩)
    have hTB := hT.grown nd M.mem s1 hT1
    have s3 : Same H1 (put H1 Fz [s.heap.objs.size + 1, s.heap.objs.size + 1 + 1]) := put_same fun c hc => (hF c hc).1
    refine k g (s.heap.objs.size + 1) (s.heap.objs.size + 1 + 1) _ (fun z => absurd z (Nat.ne_of_lt (Nat.lt_succ_self _))) (s2.trans s3.toSam) (hTB.same s3) (hL.sam s3.toSam) fun q hq => ?_
    rcases List.mem_cons.mp hq with hq | hq
    · rw [hq]
      obtain ⟨o, u, e1, e2⟩ := hFv (1, s.heap.objs.size + 1 + 1) (by simp) (.ref b) rfl
      exact ⟨o, u, by rw [put_in (by simp)]; exact e1, e2⟩
    · rw [List.mem_singleton.mp hq]
      obtain ⟨o, u, e1, e2⟩ := hFv (0, s.heap.objs.size + 1) (by simp) (.ref a) rfl
      exact ⟨o, u, by rw [put_in (by simp)]; exact e1, e2⟩
/-- the lambda's own promise -/
def Rpr (g c d a b : Addr) (ps qs : List Addr) (hs gs : List Rm) : Hp → Prop := fun H => (Lam H g qP (lamArgs lamP) (lamBody lamP) (lamScope lamP) (capC (capP c d a b)) ∧ Caps H (capP c d a b)) ∧ HouseAt H a ps hs ∧ HouseAt H b qs gs
theorem Rpr.same {g c d a b : Addr} {ps qs : List Addr} {hs gs : List Rm} : ∀ H1 H2, Rpr g c d a b ps qs hs gs H1 → Same H1 H2 → Rpr g c d a b ps qs hs gs H2 := fun _ _ h s => ⟨⟨h.1.1.sam s.toSam, h.1.2.same s⟩, h.2.1.same s, h.2.2.same s⟩
theorem isP_into {H : Hp} {L : List Cap} {p : Nat × Nat} {v : V} (h : cPairs.isP H p v) (hC : Caps H L) : cPairs.isP (put H noH (capA L)) p v := by
  obtain ⟨t, e, ht⟩ := h
  exact ⟨t, e, hC.keep ht fun _ _ z => by cases z⟩
theorem isP_back {H H1 : Hp} {cs : List Addr} {p : Nat × Nat} {v : V} (h : cPairs.isP H1 p v) (hn : ∀ c ∈ cs, H1 c = none) : cPairs.isP (put H1 H cs) p v := by
  obtain ⟨t, e, ht⟩ := h
  exact ⟨t, e, back_at hn ht⟩
theorem ok_lamP {fp fe g c d a b : Addr} {fdp fde : FuncData} {ps qs : List Addr} {hs gs : List Rm} (wf : Wf hs) (wg : Wf gs) {s0 : Nat × Nat} (z1 : s0.1 < hs.length) (z2 : s0.2 < gs.length) (ncd : c ≠ d) (Ex : Df K mg "exits_of" 3 ["house", "room"] fe fde) (Ep : Df K mg "exits_of_pair" 6 ["one", "other", "pair"] fp fdp) :
    FvOk P w K mg base 3 g (Rpr g c d a b ps qs hs gs) (spExG cPairs (grPairs hs gs wf wg s0 z1 z2)) := by
  have G_expair : FnOk P w K mg base CX0 2 fp fdp ["one", "other", "pair"] spExPair := ok_expair Ep.fn Ex
  have L : FvOk P w K mg base 3 g (fun H => Lam H g qP (lamArgs lamP) (lamBody lamP) (lamScope lamP) (capC (capP c d a b)) ∧ Caps H (capP c d a b)) (fun vs H Q E => (HouseAt H a ps hs ∧ HouseAt H b qs gs) ∧ spExG cPairs (grPairs hs gs wf wg s0 z1 z2) vs H Q E) := by
    refine clo_lam (k := 2) sc_lamP (by simp [capA, capP, Ne.symm ncd]) (fun pm ctv c' us hl => match us, hl with | [_], _ => rfl) (fun vs H Q E h => ?_) fun c' A outer s H vs Q E hr hC hnb h => ?_
    · obtain ⟨_, i, v, rfl, _⟩ := h
      rfl
    · obtain ⟨⟨ha, hb⟩, p, v, rfl, hp, hv, q⟩ := h
      refine ⟨_, (show PE _ (lamBody lamP) _ from pe_call G_expair hr rfl Ep.m Ep.fn.kp Ep.b .nil pass0 (pa_cons (pv 2) (pa_cons (pv 1) (pa_cons (pv 0) pa_nil)))), ?_⟩
      refine ⟨_, rfl, _, rfl, _, rfl, a, b, ps, qs, hs, gs, p, v, rfl, ha.into hC, hb.into hC, hp.1, hp.2, isP_into hv hC, fun t H' vl vr s1 ht hvl hvr hn => ?_⟩
      exact q t _ vl vr (back_same s1) (back_at hn ht) (isP_back hvl hn) (isP_back hvr hn)
  exact ⟨fun H h hR => L.1 H h hR.1, fun A outer s H us vs Q E hr e0 hR r hsp => L.2 A outer s H us vs Q E hr e0 hR.1 r ⟨hR.2, hsp⟩⟩
/-! ### both, either -/
def defQs (x y : Str) : Nat → Nat → Option Str := fun _ _ => some (x ++ ".<locals>." ++ y)
def litB : Stmt := (defBody (top 10)).getD 0 (.Pass ⟨0, 0, 0, 0⟩)
def litE : Stmt := (defBody (top 11)).getD 0 (.Pass ⟨0, 0, 0, 0⟩)
theorem sc_litB : CloScope ["pair", "other", "one"] ["pair"] ["other", "one"] (defScope litB) := ⟨rfl, rfl, rfl, by decide +kernel, by decide +kernel, by decide +kernel, rfl, by decide +kernel, by decide +kernel⟩
theorem sc_litE : CloScope ["pair", "other", "one"] ["pair"] ["other", "one"] (defScope litE) := ⟨rfl, rfl, rfl, by decide +kernel, by decide +kernel, by decide +kernel, rfl, by decide +kernel, by decide +kernel⟩
def Rlt (q : Str) (st : Stmt) (g c d a b : Addr) (ps qs : List Addr) (hs gs : List Rm) : Hp → Prop := fun H => (Ndf H g "lit" q (defArgs st) (defBody st) (defScope st) (capC (capP c d a b)) ∧ Caps H (capP c d a b)) ∧ HouseAt H a ps hs ∧ HouseAt H b qs gs
theorem Rlt.same {q : Str} {st : Stmt} {g c d a b : Addr} {ps qs : List Addr} {hs gs : List Rm} : ∀ H1 H2, Rlt q st g c d a b ps qs hs gs H1 → Same H1 H2 → Rlt q st g c d a b ps qs hs gs H2 := fun _ _ h s => ⟨⟨h.1.1.sam s.toSam, h.1.2.same s⟩, h.2.1.same s, h.2.2.same s⟩
def qB : Str := ("both" : Str) ++ ".<locals>." ++ "lit"
def qT : Str := ("either" : Str) ++ ".<locals>." ++ "lit"
def bothL (hs gs : List Rm) (p : Nat × Nat) : Bool := litAt hs p.1 && litAt gs p.2
def eithL (hs gs : List Rm) (p : Nat × Nat) : Bool := litAt hs p.1 || litAt gs p.2
theorem ok_litB {fl g c d a b : Addr} {fdl : FuncData} {ps qs : List Addr} {hs gs : List Rm} (wf : Wf hs) (wg : Wf gs) {s0 : Nat × Nat} (z1 : s0.1 < hs.length) (z2 : s0.2 < gs.length) (ncd : c ≠ d) (Li : Df K mg "is_lit" 4 ["house", "room"] fl fdl) :
    FvOk P w K mg base 3 g (Rlt qB litB g c d a b ps qs hs gs) (spWant cPairs (grPairs hs gs wf wg s0 z1 z2) (bothL hs gs)) := by
  have G_lit : FnOk P w K mg base CX0 2 fl fdl ["house", "room"] spLit := (ok_lit Li.fn).mono (by decide)
  have L : FvOk P w K mg base 3 g (fun H => Ndf H g "lit" qB (defArgs litB) (defBody litB) (defScope litB) (capC (capP c d a b)) ∧ Caps H (capP c d a b)) (fun vs H Q E => (HouseAt H a ps hs ∧ HouseAt H b qs gs) ∧ spWant cPairs (grPairs hs gs wf wg s0 z1 z2) (bothL hs gs) vs H Q E) := by
    refine clo_def (k := 2) sc_litB (by simp [capA, capP, Ne.symm ncd]) (fun doc pm ctv c' us hl => match us, hl with | [_], _ => rfl) (fun vs H Q E h => ?_) fun c' A outer s H vs Q E hr hC hnb h => ?_
    · obtain ⟨_, i, v, rfl, _⟩ := h
      rfl
    · obtain ⟨⟨ha, hb⟩, p, v, rfl, hp, hv, q⟩ := h
      obtain ⟨t, rfl, ht⟩ := isP_into hv hC
      have ht : put H noH (capA (capP c d a b)) t = some (.tup [.int (p.1 : Int), .int (p.2 : Int)]) := ht
      have hp1 : p.1 < hs.length := hp.1
      have hp2 : p.2 < gs.length := hp.2
      have e1 : hs[p.1]? = some hs[p.1] := by simp [hp1]
      have e2 : gs[p.2]? = some gs[p.2] := by simp [hp2]
      have l1 : litAt hs p.1 = hs[p.1].lit := by rw [litAt, e1]
      have l2 : litAt gs p.2 = gs[p.2].lit := by rw [litAt, e2]
      generalize hs[p.1] = r1 at e1 l1
      generalize gs[p.2] = r2 at e2 l2
      refine ⟨_, (show PSs _ (defBody litB) _ from (pss_one (ps_ret (pe_and (pe_call G_lit hr rfl Li.m Li.fn.kp Li.b .nil pass0 (pa_cons (pv 2) (pa_cons (pe_ix ix_tup (pv 0) pe_int (fun _ _ => rfl)) pa_nil))) (pe_one (pe_call G_lit hr rfl Li.m Li.fn.kp Li.b .nil pass0 (pa_cons (pv 1) (pa_cons (pe_ix ix_tup (pv 0) pe_int (fun _ _ => rfl)) pa_nil)))))))), ?_⟩
      refine ⟨_, rfl, _, rfl, t, _, _, _, rfl, rfl, SqT.of ht, rfl, a, ps, hs, p.1, r1, rfl, ha.into hC, e1, _, rfl, ?_⟩
      refine andR (c2 := r2.lit) (fun z => ⟨_, rfl, _, rfl, t, _, _, _, rfl, rfl, SqT.of ht, rfl, b, qs, gs, p.2, r2, rfl, hb.into hC, e2, z⟩) fun hn => ?_
      have := q (put (put H noH (capA (capP c d a b))) H (capA (capP c d a b))) (back_same (.refl _))
      unfold bothL at this
      rw [l1, l2] at this
      exact this
  exact ⟨fun H h hR => L.1 H h hR.1, fun A outer s H us vs Q E hr e0 hR r hsp => L.2 A outer s H us vs Q E hr e0 hR.1 r ⟨hR.2, hsp⟩⟩
theorem ok_litE {fl g c d a b : Addr} {fdl : FuncData} {ps qs : List Addr} {hs gs : List Rm} (wf : Wf hs) (wg : Wf gs) {s0 : Nat × Nat} (z1 : s0.1 < hs.length) (z2 : s0.2 < gs.length) (ncd : c ≠ d) (Li : Df K mg "is_lit" 4 ["house", "room"] fl fdl) :
    FvOk P w K mg base 3 g (Rlt qT litE g c d a b ps qs hs gs) (spWant cPairs (grPairs hs gs wf wg s0 z1 z2) (eithL hs gs)) := by
  have G_lit : FnOk P w K mg base CX0 2 fl fdl ["house", "room"] spLit := (ok_lit Li.fn).mono (by decide)
  have L : FvOk P w K mg base 3 g (fun H => Ndf H g "lit" qT (defArgs litE) (defBody litE) (defScope litE) (capC (capP c d a b)) ∧ Caps H (capP c d a b)) (fun vs H Q E => (HouseAt H a ps hs ∧ HouseAt H b qs gs) ∧ spWant cPairs (grPairs hs gs wf wg s0 z1 z2) (eithL hs gs) vs H Q E) := by
    refine clo_def (k := 2) sc_litE (by simp [capA, capP, Ne.symm ncd]) (fun doc pm ctv c' us hl => match us, hl with | [_], _ => rfl) (fun vs H Q E h => ?_) fun c' A outer s H vs Q E hr hC hnb h => ?_
    · obtain ⟨_, i, v, rfl, _⟩ := h
      rfl
    · obtain ⟨⟨ha, hb⟩, p, v, rfl, hp, hv, q⟩ := h
      obtain ⟨t, rfl, ht⟩ := isP_into hv hC
      have ht : put H noH (capA (capP c d a b)) t = some (.tup [.int (p.1 : Int), .int (p.2 : Int)]) := ht
      have hp1 : p.1 < hs.length := hp.1
      have hp2 : p.2 < gs.length := hp.2
      have e1 : hs[p.1]? = some hs[p.1] := by simp [hp1]
      have e2 : gs[p.2]? = some gs[p.2] := by simp [hp2]
      have l1 : litAt hs p.1 = hs[p.1].lit := by rw [litAt, e1]
      have l2 : litAt gs p.2 = gs[p.2].lit := by rw [litAt, e2]
      generalize hs[p.1] = r1 at e1 l1
      generalize gs[p.2] = r2 at e2 l2
      refine ⟨_, (show PSs _ (defBody litE) _ from (pss_one (ps_ret (pe_or (pe_call G_lit hr rfl Li.m Li.fn.kp Li.b .nil pass0 (pa_cons (pv 2) (pa_cons (pe_ix ix_tup (pv 0) pe_int (fun _ _ => rfl)) pa_nil))) (pe_one (pe_call G_lit hr rfl Li.m Li.fn.kp Li.b .nil pass0 (pa_cons (pv 1) (pa_cons (pe_ix ix_tup (pv 0) pe_int (fun _ _ => rfl)) pa_nil)))))))), ?_⟩
      refine ⟨_, rfl, _, rfl, t, _, _, _, rfl, rfl, SqT.of ht, rfl, a, ps, hs, p.1, r1, rfl, ha.into hC, e1, _, rfl, ?_⟩
      refine orR (c2 := r2.lit) (fun z => ⟨_, rfl, _, rfl, t, _, _, _, rfl, rfl, SqT.of ht, rfl, b, qs, gs, p.2, r2, rfl, hb.into hC, e2, z⟩) fun hn => ?_
      have := q (put (put H noH (capA (capP c d a b))) H (capA (capP c d a b))) (back_same (.refl _))
      unfold eithL at this
      rw [l1, l2] at this
      exact this
  exact ⟨fun H h hR => L.1 H h hR.1, fun A outer s H us vs Q E hr e0 hR r hsp => L.2 A outer s H us vs Q E hr e0 hR.1 r ⟨hR.2, hsp⟩⟩
def spBE (tabs : Tbs) (op : Bool → Bool → Bool) : Sp := fun vs H Q _ => ∃ (a b : Addr) (ps qs : List Addr) (hs gs : List Rm), vs = [.ref a, .ref b] ∧ HouseAt H a ps hs ∧ HouseAt H b qs gs ∧ Wf hs ∧ Wf gs ∧ hs.length * gs.length ≤ 1000 ∧ TB tabs H ∧
  ∀ (l : Addr) (ps' : List Addr) (rs : List Rm) (H' : Hp), (∀ u, H l = some u → ∃ ps, u = .tbl ps) → SamT H H' → TB tabs H' → HouseAt H' l ps' rs → Wf rs → rs.length ≤ hs.length * gs.length → (∀ wk, litAt rs (led rs 0 wk) = op (litAt hs (led hs 0 wk)) (litAt gs (led gs 0 wk))) → Q (.ref l) H'
theorem sc_both : FnScope ["one", "other", "lit"] ["one", "other"] (defScope (top 10)) := ⟨rfl, rfl, rfl, by decide +kernel, rfl, by decide +kernel, by decide +kernel⟩
theorem sc_either : FnScope ["one", "other", "lit"] ["one", "other"] (defScope (top 11)) := ⟨rfl, rfl, rfl, by decide +kernel, rfl, by decide +kernel, by decide +kernel⟩
theorem ok_both {fe fl fi fp fy c Pt ci Pi : Addr} {fde fdl fdi fdp fdy : FuncData} {tabs : Tbs} (F : Fun K "both" "both" (top 10) f fd) (T : Blt mg) (hB : BMain mg base) (nd : (tabs.map (·.1)).Nodup) (M : Mkr base fd tabs c Pt (defQs "both" "lit"))
    (Ex : Df K mg "exits_of" 3 ["house", "room"] fe fde) (Li : Df K mg "is_lit" 4 ["house", "room"] fl fdl) (Ep : Df K mg "exits_of_pair" 6 ["one", "other", "pair"] fp fdp) (Ei : Df K mg "exits_in_pairs" 7 ["one", "other"] fi fdi) (Mi : Mkr base fdi tabs ci Pi (lamQs "exits_in_pairs")) (Lo : Df K mg "lay_out" 1 ["start", "exits", "lit"] fy fdy) :
    FnOk P w K mg base CX0 5 f fd ["one", "other"] (spBE tabs and) := by
  have G_exip : FnOk P w K mg base CX0 4 fi fdi ["one", "other"] (spExIP tabs) := (ok_exip Ei.fn Mi hB nd).mono (by decide)
  refine okC F M.code sc_both (fun vs H Q E h => ?_) (fun A outer s H vs Q E hr h => ?_)
  · obtain ⟨a, b, ps, qs, hs, gs, rfl, _⟩ := h
    rfl
  · obtain ⟨a, b, ps, qs, hs, gs, rfl, ha, hb, wf, wg, few, hTb, k⟩ := h
    have G_lay : FnOk P w K mg base CX0 4 fy fdy ["start", "exits", "lit"] (spLay P w K mg base 3 cPairs (grPairs hs gs wf wg (0, 0) wf.ne wg.ne) (bothL hs gs)) := ok_lay Lo.fn T
    refine ⟨_, (pss_cons (ps_def (i := 2) (c := c) (P := Pt) (qs := defQs "both" "lit") (clos := [("other", s.heap.objs.size + 1 + 1), ("one", s.heap.objs.size + 1)]) sc_both.nd rfl (Or.inl rfl) M.hd rfl hB (by kernel_rfl) rfl)
      (pss_one (ps_ret (pe_callCs (sl := [(0, s.heap.objs.size + 1), (1, s.heap.objs.size + 1 + 1)]) (E := fun _ _ _ => False) G_lay hr rfl Lo.m Lo.fn.kp Lo.b ?sl (pa_cons (pe_tup (pa_cons pe_int (pa_cons pe_int pa_nil))) (pa_cons (pe_call G_exip hr rfl Ei.m Ei.fn.kp Ei.b .nil pass0 (pa_cons (pv 0) (pa_cons (pv 1) pa_nil))) (pa_cons (pv 2) pa_nil))))))), ?_⟩
    case sl =>
      intro p hp
      rcases List.mem_cons.mp hp with hp | hp
      · rw [hp]
        exact ⟨"one", rfl, Or.inr (Or.inl rfl), Or.inl rfl, rfl, Or.inl rfl⟩
      · rw [List.mem_singleton.mp hp]
        exact ⟨"other", rfl, Or.inr (Or.inl rfl), Or.inl rfl, rfl, Or.inl rfl⟩
    refine ⟨hTb _ M.mem, fun g2 H1 hg2 s1 hT1 hL2 => ?_⟩
    have s1' : SamT H H1 := s1.toSam (let ⟨ps, e, _⟩ := hTb _ M.mem; ⟨ps, e⟩)
    have hTB1 := hTb.grown nd M.mem s1 hT1
    refine ⟨(by show 2 ≤ sizeLine; decide), fun t ht => ?_⟩
    have s2 : Same H1 (upd H1 t (.tup [.int 0, .int 0])) := same_upd ht
    have ht2 : upd H1 t (.tup [.int 0, .int 0]) t = some (.tup [.int 0, .int 0]) := upd_same
    generalize upd H1 t (.tup [.int 0, .int 0]) = H2 at s2 ht2
    refine ⟨_, rfl, _, rfl, a, b, rfl, hTB1.same s2, fun g cc dd H3 ncd s3 hT3 hL1 hc1 => ?_⟩
    refine ⟨_, rfl, ?_⟩
    intro Fz hF hFv
    have ht3 := s3 _ _ ht2 (fun _ z => by cases z)
    have hL3 := (hL2.sam s2.toSam).sam s3
    have s13 : SamT H H3 := (s1'.trans s2.toSam).trans s3
    have nab : s.heap.objs.size + 1 ≠ s.heap.objs.size + 1 + 1 := Nat.ne_of_lt (Nat.lt_succ_self _)
    have hcap : Caps (put H3 Fz [s.heap.objs.size + 1, s.heap.objs.size + 1 + 1]) (capP (s.heap.objs.size + 1) (s.heap.objs.size + 1 + 1) a b) := fun q hq => by
      rcases List.mem_cons.mp hq with hq | hq
      · rw [hq]
        obtain ⟨o, u, e1, e2⟩ := hFv (1, s.heap.objs.size + 1 + 1) (by simp) (.ref b) rfl
        exact ⟨o, u, by rw [put_in (by simp)]; exact e1, e2⟩
      · rw [List.mem_singleton.mp hq]
        obtain ⟨o, u, e1, e2⟩ := hFv (0, s.heap.objs.size + 1) (by simp) (.ref a) rfl
        exact ⟨o, u, by rw [put_in (by simp)]; exact e1, e2⟩
    have hn2 : ∀ c ∈ [s.heap.objs.size + 1, s.heap.objs.size + 1 + 1], H3 c = none ∧ ∃ o, Fz c = some (frzC c o) := hF
    have s4 : Same H3 (put H3 Fz [s.heap.objs.size + 1, s.heap.objs.size + 1 + 1]) := put_same fun c hc => (hn2 c hc).1
    have ha4 := ha.sam (s13.trans s4.toSam)
    have hb4 := hb.sam (s13.trans s4.toSam)
    refine ⟨.ref t, g, g2, Rpr g cc dd a b ps qs hs gs, Rlt qB litB g2 (s.heap.objs.size + 1) (s.heap.objs.size + 1 + 1) a b ps qs hs gs, rfl, ⟨⟨t, rfl, s4 _ _ ht3⟩, spExS_of (ok_lamP wf wg wf.ne wg.ne ncd Ex Ep), ok_litB wf wg wf.ne wg.ne nab Li, ⟨⟨hL1.sam s4.toSam, hc1.same s4⟩, ha4, hb4⟩, ⟨⟨hL3.sam s4.toSam, hcap⟩, ha4, hb4⟩, Rpr.same, Rlt.same, cPairs_inj _, Nat.lt_of_le_of_lt few (by decide)⟩, ?_⟩
    intro l ps' rs as H' hl s5 hh5 hLd
    have hfz : ∀ c ∈ [s.heap.objs.size + 1, s.heap.objs.size + 1 + 1], ∃ o, H' c = some (frzC c o) := fun c hc => let ⟨o, e⟩ := (hn2 c hc).2; ⟨o, s5 _ _ (show put H3 Fz [s.heap.objs.size + 1, s.heap.objs.size + 1 + 1] c = _ from by rw [put_in hc]; exact e)⟩
    have hlf : ∀ u, H l = some u → ∃ ps, u = .tbl ps := fun u e => by
      refine Classical.byContradiction fun z => ?_
      have e3 := s13 l u e fun ps y => z ⟨ps, y⟩
      have e4 := s4 l u e3
      have hl' : put H3 Fz [s.heap.objs.size + 1, s.heap.objs.size + 1 + 1] l = none := hl
      rw [hl'] at e4
      cases e4
    refine k l ps' rs _ hlf (out_sam (fun c hc => (hn2 c hc).1) s13 s5.toSam) (out_tb hfz ((hT3.same s4).same s5)) ⟨put_keep hfz hh5.ob (fun _ _ z => by cases z), hh5.rm.1, fun i p r e1 e2 => put_keep hfz (hh5.rm.2 i p r e1 e2) fun _ _ z => by cases z⟩ hLd.wf (by rw [← hLd.len]; exact hLd.lay.len) fun wk => ?_
    rw [hLd.walk wk, grPairs_led]
    rfl
theorem ok_either {fe fl fi fp fy c Pt ci Pi : Addr} {fde fdl fdi fdp fdy : FuncData} {tabs : Tbs} (F : Fun K "either" "either" (top 11) f fd) (T : Blt mg) (hB : BMain mg base) (nd : (tabs.map (·.1)).Nodup) (M : Mkr base fd tabs c Pt (defQs "either" "lit"))
    (Ex : Df K mg "exits_of" 3 ["house", "room"] fe fde) (Li : Df K mg "is_lit" 4 ["house", "room"] fl fdl) (Ep : Df K mg "exits_of_pair" 6 ["one", "other", "pair"] fp fdp) (Ei : Df K mg "exits_in_pairs" 7 ["one", "other"] fi fdi) (Mi : Mkr base fdi tabs ci Pi (lamQs "exits_in_pairs")) (Lo : Df K mg "lay_out" 1 ["start", "exits", "lit"] fy fdy) :
    FnOk P w K mg base CX0 5 f fd ["one", "other"] (spBE tabs or) := by
  have G_exip : FnOk P w K mg base CX0 4 fi fdi ["one", "other"] (spExIP tabs) := (ok_exip Ei.fn Mi hB nd).mono (by decide)
  refine okC F M.code sc_either (fun vs H Q E h => ?_) (fun A outer s H vs Q E hr h => ?_)
  · obtain ⟨a, b, ps, qs, hs, gs, rfl, _⟩ := h
    rfl
  · obtain ⟨a, b, ps, qs, hs, gs, rfl, ha, hb, wf, wg, few, hTb, k⟩ := h
    have G_lay : FnOk P w K mg base CX0 4 fy fdy ["start", "exits", "lit"] (spLay P w K mg base 3 cPairs (grPairs hs gs wf wg (0, 0) wf.ne wg.ne) (eithL hs gs)) := ok_lay Lo.fn T
    refine ⟨_, (pss_cons (ps_def (i := 2) (c := c) (P := Pt) (qs := defQs "either" "lit") (clos := [("other", s.heap.objs.size + 1 + 1), ("one", s.heap.objs.size + 1)]) sc_either.nd rfl (Or.inl rfl) M.hd rfl hB (by kernel_rfl) rfl)
      (pss_one (ps_ret (pe_callCs (sl := [(0, s.heap.objs.size + 1), (1, s.heap.objs.size + 1 + 1)]) (E := fun _ _ _ => False) G_lay hr rfl Lo.m Lo.fn.kp Lo.b ?sl (pa_cons (pe_tup (pa_cons pe_int (pa_cons pe_int pa_nil))) (pa_cons (pe_call G_exip hr rfl Ei.m Ei.fn.kp Ei.b .nil pass0 (pa_cons (pv 0) (pa_cons (pv 1) pa_nil))) (pa_cons (pv 2) pa_nil))))))), ?_⟩
    case sl =>
      intro p hp
      rcases List.mem_cons.mp hp with hp | hp
      · rw [hp]
        exact ⟨"one", rfl, Or.inr (Or.inl rfl), Or.inl rfl, rfl, Or.inl rfl⟩
      · rw [List.mem_singleton.mp hp]
        exact ⟨"other", rfl, Or.inr (Or.inl rfl), Or.inl rfl, rfl, Or.inl rfl⟩
    refine ⟨hTb _ M.mem, fun g2 H1 hg2 s1 hT1 hL2 => ?_⟩
    have s1' : SamT H H1 := s1.toSam (let ⟨ps, e, _⟩ := hTb _ M.mem; ⟨ps, e⟩)
    have hTB1 := hTb.grown nd M.mem s1 hT1
    refine ⟨(by show 2 ≤ sizeLine; decide), fun t ht => ?_⟩
    have s2 : Same H1 (upd H1 t (.tup [.int 0, .int 0])) := same_upd ht
    have ht2 : upd H1 t (.tup [.int 0, .int 0]) t = some (.tup [.int 0, .int 0]) := upd_same
    generalize upd H1 t (.tup [.int 0, .int 0]) = H2 at s2 ht2
    refine ⟨_, rfl, _, rfl, a, b, rfl, hTB1.same s2, fun g cc dd H3 ncd s3 hT3 hL1 hc1 => ?_⟩
    refine ⟨_, rfl, ?_⟩
    intro Fz hF hFv
    have ht3 := s3 _ _ ht2 (fun _ z => by cases z)
    have hL3 := (hL2.sam s2.toSam).sam s3
    have s13 : SamT H H3 := (s1'.trans s2.toSam).trans s3
    have nab : s.heap.objs.size + 1 ≠ s.heap.objs.size + 1 + 1 := Nat.ne_of_lt (Nat.lt_succ_self _)
    have hcap : Caps (put H3 Fz [s.heap.objs.size + 1, s.heap.objs.size + 1 + 1]) (capP (s.heap.objs.size + 1) (s.heap.objs.size + 1 + 1) a b) := fun q hq => by
      rcases List.mem_cons.mp hq with hq | hq
      · rw [hq]
        obtain ⟨o, u, e1, e2⟩ := hFv (1, s.heap.objs.size + 1 + 1) (by simp) (.ref b) rfl
        exact ⟨o, u, by rw [put_in (by simp)]; exact e1, e2⟩
      · rw [List.mem_singleton.mp hq]
        obtain ⟨o, u, e1, e2⟩ := hFv (0, s.heap.objs.size + 1) (by simp) (.ref a) rfl
        exact ⟨o, u, by rw [put_in (by simp)]; exact e1, e2⟩
    have hn2 : ∀ c ∈ [s.heap.objs.size + 1, s.heap.objs.size + 1 + 1], H3 c = none ∧ ∃ o, Fz c = some (frzC c o) := hF
    have s4 : Same H3 (put H3 Fz [s.heap.objs.size + 1, s.heap.objs.size + 1 + 1]) := put_same fun c hc => (hn2 c hc).1
    have ha4 := ha.sam (s13.trans s4.toSam)
    have hb4 := hb.sam (s13.trans s4.toSam)
    refine ⟨.ref t, g, g2, Rpr g cc dd a b ps qs hs gs, Rlt qT litE g2 (s.heap.objs.size + 1) (s.heap.objs.size + 1 + 1) a b ps qs hs gs, rfl, ⟨⟨t, rfl, s4 _ _ ht3⟩, spExS_of (ok_lamP wf wg wf.ne wg.ne ncd Ex Ep), ok_litE wf wg wf.ne wg.ne nab Li, ⟨⟨hL1.sam s4.toSam, hc1.same s4⟩, ha4, hb4⟩, ⟨⟨hL3.sam s4.toSam, hcap⟩, ha4, hb4⟩, Rpr.same, Rlt.same, cPairs_inj _, Nat.lt_of_le_of_lt few (by decide)⟩, ?_⟩
    intro l ps' rs as H' hl s5 hh5 hLd
    have hfz : ∀ c ∈ [s.heap.objs.size + 1, s.heap.objs.size + 1 + 1], ∃ o, H' c = some (frzC c o) := fun c hc => let ⟨o, e⟩ := (hn2 c hc).2; ⟨o, s5 _ _ (show put H3 Fz [s.heap.objs.size + 1, s.heap.objs.size + 1 + 1] c = _ from by rw [put_in hc]; exact e)⟩
    have hlf : ∀ u, H l = some u → ∃ ps, u = .tbl ps := fun u e => by
      refine Classical.byContradiction fun z => ?_
      have e3 := s13 l u e fun ps y => z ⟨ps, y⟩
      have e4 := s4 l u e3
      have hl' : put H3 Fz [s.heap.objs.size + 1, s.heap.objs.size + 1 + 1] l = none := hl
      rw [hl'] at e4
      cases e4
    refine k l ps' rs _ hlf (out_sam (fun c hc => (hn2 c hc).1) s13 s5.toSam) (out_tb hfz ((hT3.same s4).same s5)) ⟨put_keep hfz hh5.ob (fun _ _ z => by cases z), hh5.rm.1, fun i p r e1 e2 => put_keep hfz (hh5.rm.2 i p r e1 e2) fun _ _ z => by cases z⟩ hLd.wf (by rw [← hLd.len]; exact hLd.lay.len) fun wk => ?_
    rw [hLd.walk wk, grPairs_led]
    rfl
end
end Law

set_option maxHeartbeats 8000000
namespace Law
open PySem L2 Hs PyProof.Rows
section
variable {P : Program} {w : World} {K : PySem.W.Frag} {mg : Str → Option Value} {base : Heap} {f : Addr} {fd : FuncData}
/-! ### places seen and still to be looked at, in the heap -/
section
variable {α : Type} {C : Plc α} {G : Gr α} {H H' : Hp} {kvs : List (C.k.κ × V)} {ms : List V} {seen td : List α}
def TodoAt (C : Plc α) (H : Hp) (ms : List V) (td : List α) : Prop := ms.length = td.length ∧ ∀ (i : Nat) v a, ms[i]? = some v → td[i]? = some a → C.isP H a v
theorem TodoAt.same (h : TodoAt C H ms td) (s : ∀ t xs, H t = some (.tup xs) → H' t = some (.tup xs)) : TodoAt C H' ms td := ⟨h.1, fun i v e e1 e2 => (h.2 i v e e1 e2).same s⟩
theorem TodoAt.snoc (h : TodoAt C H ms td) {a : α} {v : V} (hv : C.isP H a v) : TodoAt C H (ms ++ [v]) (td ++ [a]) := by
  refine ⟨by simp [h.1], fun i v' e' e1 e2 => ?_⟩
  rcases get_snoc e1 with ⟨h1, e1⟩ | ⟨h1, e1⟩ <;> rcases get_snoc e2 with ⟨h2, e2⟩ | ⟨h2, e2⟩
  · exact h.2 i v' e' e1 e2
  · have := h.1; omega
  · have := h.1; omega
  · subst e1 e2; exact hv
theorem TodoAt.split {v : V} (h : TodoAt C H (ms ++ [v]) td) : ∃ td' a, td = td' ++ [a] ∧ TodoAt C H ms td' ∧ C.isP H a v := by
  have hl := h.1
  rcases List.eq_nil_or_concat td with rfl | ⟨td', a, rfl⟩
  · simp at hl
  · rw [List.concat_eq_append] at *
    have hl' : ms.length = td'.length := by simpa using hl
    refine ⟨td', a, rfl, ⟨hl', fun i v' a' e1 e2 => ?_⟩, ?_⟩
    · have h1 : i < ms.length := (List.getElem?_eq_some_iff.mp e1).1
      exact h.2 i v' a' (by rw [List.getElem?_append_left h1]; exact e1) (by rw [List.getElem?_append_left (by omega)]; exact e2)
    · exact h.2 ms.length v a (by simp) (by rw [hl']; simp)
theorem seen_has (h : kvs.map (·.1) = seen.map C.key) (inj : C.Inj G) (hU : ∀ a ∈ seen, G.U a) {a : α} (ha : G.U a) : (valV kvs (C.key a)).isSome = true ↔ a ∈ seen := by
  have hk : C.key a ∈ kvs.map (·.1) ↔ a ∈ seen := by
    rw [h]
    constructor
    · intro z
      obtain ⟨b, hb, e⟩ := List.mem_map.mp z
      exact inj _ _ (hU b hb) ha e ▸ hb
    · intro z
      exact List.mem_map.mpr ⟨a, z, rfl⟩
  rw [← hk]
  constructor
  · intro z
    refine Decidable.byContradiction fun y => ?_
    rw [valV_no y] at z
    cases z
  · intro z
    cases e : valV kvs (C.key a) with
    | some v => rfl
    | none =>
      exfalso
      unfold valV at e
      rw [Option.map_eq_none_iff, List.find?_eq_none] at e
      obtain ⟨p, hp, e2⟩ := List.mem_map.mp z
      exact e p hp (by simpa using e2)
theorem seen_put (h : kvs.map (·.1) = seen.map C.key) (inj : C.Inj G) (hU : ∀ a ∈ seen, G.U a) {a : α} {v : V} (ha : G.U a) (hn : a ∉ seen) : (putK kvs (C.key a) v).map (·.1) = (seen ++ [a]).map C.key := by
  have : C.key a ∉ kvs.map (·.1) := by
    rw [h]
    intro z
    obtain ⟨b, hb, e⟩ := List.mem_map.mp z
    exact hn (inj _ _ (hU b hb) ha e ▸ hb)
  rw [putK_new this, List.map_append, List.map_append, h]
  rfl
end
def lenOf (o : Option HO) : Nat := match o with
  | some (.lst xs) => xs.length
  | some (.dT kvs) => kvs.length
  | some (.dK kvs) => kvs.length
  | _ => 0
def cTrio : Plc (Nat × Nat × Nat) := ⟨.t, fun p => [Sum.inl (p.1 : Int), Sum.inl (p.2.1 : Int), Sum.inl (p.2.2 : Int)]⟩
theorem cTrio_inj (G : Gr (Nat × Nat × Nat)) : cTrio.Inj G := fun a b _ _ e => by
  have e : ([Sum.inl (a.1 : Int), Sum.inl (a.2.1 : Int), Sum.inl (a.2.2 : Int)] : List Key) = [Sum.inl (b.1 : Int), Sum.inl (b.2.1 : Int), Sum.inl (b.2.2 : Int)] := e
  injection e with e1 e2
  injection e2 with e2 e3
  injection e3 with e3 _
  have h1 : (a.1 : Int) = (b.1 : Int) := Sum.inl.inj e1
  have h2 : (a.2.1 : Int) = (b.2.1 : Int) := Sum.inl.inj e2
  have h3 : (a.2.2 : Int) = (b.2.2 : Int) := Sum.inl.inj e3
  exact Prod.ext (by omega) (Prod.ext (by omega) (by omega))
def dueB (way : Nat) (x y : Bool) : Bool := if way = 0 then !x else if way = 1 then x && y else x || y
def spAgrees : Sp := fun vs H Q _ => ∃ (c a b : Addr) (os ps qs : List Addr) (fs hs gs : List Rm) (way : Nat), vs = [.ref c, .ref a, .ref b, .int (way : Int)] ∧ HouseAt H c os fs ∧ HouseAt H a ps hs ∧ HouseAt H b qs gs ∧ Wf fs ∧ Wf hs ∧ Wf gs ∧ way < 3 ∧ fs.length * (hs.length * gs.length) ≤ 100000 ∧
  (∀ wk, litAt fs (led fs 0 wk) = dueB way (litAt hs (led hs 0 wk)) (litAt gs (led gs 0 wk))) ∧ ∀ H', Same H H' → Q (.bl true) H'
theorem sc_law_agrees : FnScope ["_law_found", "_law_one", "_law_other", "_law_way", "_law_seen", "_law_todo", "_law_trio", "_law_left", "_law_right", "_law_due", "_law_turn", "_law_further"] ["_law_found", "_law_one", "_law_other", "_law_way"] (defScope (top 18)) := ⟨rfl, rfl, rfl, by decide +kernel, rfl, by decide +kernel, by decide +kernel⟩
theorem ok_agrees (F : Fun K "_law_agrees" "_law_agrees" (top 18) f fd) (T : Blt mg) : FnOk P w K mg base CX0 1 f fd ["_law_found", "_law_one", "_law_other", "_law_way"] spAgrees := by
  refine F.ok sc_law_agrees (fun vs H Q E h => ?_) (fun cdv A outer s H vs Q E hr h => ?_)
  · obtain ⟨c, a, b, os, ps, qs, fs, hs, gs, way, rfl, _⟩ := h
    rfl
  · obtain ⟨c, a, b, os, ps, qs, fs, hs, gs, way, rfl, hc, ha, hb, wc, wf, wg, hway, few, hsame, k⟩ := h
    have hu := hu_of hr
    obtain ⟨G, hG⟩ : ∃ G, G = grTrio fs hs gs wc wf wg := ⟨_, rfl⟩
    have inj : cTrio.Inj G := cTrio_inj G
    have hGB : G.B ≤ 100000 := by rw [hG]; exact few
    have hGs : G.s0 = (0, 0, 0) := by rw [hG]; rfl
    have hGn : ∀ x y z : Nat, ∀ b, G.nx (x, y, z) b = (stp fs x b, stp hs y b, stp gs z b) := fun x y z b => by rw [hG]; rfl
    have hGU : ∀ x y z : Nat, G.U (x, y, z) → x < fs.length ∧ y < hs.length ∧ z < gs.length := fun x y z h => by rw [hG] at h; exact h
    have hlit : ∀ x y z : Nat, G.Reach (x, y, z) → litAt fs x = dueB way (litAt hs y) (litAt gs z) := fun x y z ⟨wk, e⟩ => by
      rw [hG, grTrio_led] at e
      have e1 : led fs 0 wk = x := congrArg (·.1) e
      have e2 : led hs 0 wk = y := congrArg (·.2.1) e
      have e3 : led gs 0 wk = z := congrArg (·.2.2) e
      rw [← e1, ← e2, ← e3]
      exact hsame wk
    refine ⟨_, (pss_cons (ps_set (i := 4) sc_law_agrees.nd rfl (Or.inl rfl) (pe_disp1 .t (Nat.lt_of_succ_lt hu) (pe_tup (pa_cons pe_int (pa_cons pe_int (pa_cons pe_int pa_nil)))) pe_bl))
      (pss_cons (ps_set (i := 5) sc_law_agrees.nd rfl (Or.inl rfl) (pe_lst (pa_cons (pe_tup (pa_cons pe_int (pa_cons pe_int (pa_cons pe_int pa_nil)))) pa_nil)))
      (pss_cons (ps_while PassesOwn.never (pt_cmpR (op_neL hu) (pv 5) (pe_lst pa_nil) (nomark _))
        (pss_cons (ps_set (i := 6) sc_law_agrees.nd rfl (Or.inl rfl) (pe_bm0 PySem.F.plainAttrs_list PySem.F.slot_list_pop PySem.F.type_list_pop mt_pop (pv 5)))
        (pss_cons (ps_set (i := 7) sc_law_agrees.nd rfl (Or.inl rfl) (pe_ix ix_list (pv 1) (pe_ix ix_tup (pv 6) pe_int (fun _ _ => rfl)) (fun _ _ => rfl)))
        (pss_cons (ps_set (i := 8) sc_law_agrees.nd rfl (Or.inl rfl) (pe_ix ix_list (pv 2) (pe_ix ix_tup (pv 6) pe_int (fun _ _ => rfl)) (fun _ _ => rfl)))
        (pss_cons (ps_set (i := 9) sc_law_agrees.nd rfl (Or.inl rfl) (pe_ix ix_list (pe_lst (pa_cons (pe_not (pe_ix ix_tup (pv 7) pe_int (fun _ _ => rfl))) (pa_cons (pe_andP (pe_ix ix_tup (pv 7) pe_int (fun _ _ => rfl)) (pe_one (pe_ix ix_tup (pv 8) pe_int (fun _ _ => rfl)))) (pa_cons (pe_orP (pe_ix ix_tup (pv 7) pe_int (fun _ _ => rfl)) (pe_one (pe_ix ix_tup (pv 8) pe_int (fun _ _ => rfl)))) pa_nil)))) (pv 3) (fun _ _ => rfl)))
        (pss_cons (ps_if (pt_cmpR op_ne (pe_ix ix_tup (pe_ix ix_list (pv 0) (pe_ix ix_tup (pv 6) pe_int (fun _ _ => rfl)) (fun _ _ => rfl)) pe_int (fun _ _ => rfl)) (pv 9) (nomark _))
          (pss_one (ps_ret pe_bl))
          pss_nil)
        (pss_one (ps_for PassesOwn.never rfl (pi_range1 rfl T.range (pa_cons pe_int pa_nil)) (pg_name (i := 10) sc_law_agrees.nd rfl (Or.inl rfl))
          (pss_cons (ps_set (i := 11) sc_law_agrees.nd rfl (Or.inl rfl) (pe_tup (pa_cons (pe_ix ix_tup (pe_ix ix_list (pv 0) (pe_ix ix_tup (pv 6) pe_int (fun _ _ => rfl)) (fun _ _ => rfl)) (pv 10) (fun _ _ => rfl)) (pa_cons (pe_ix ix_tup (pv 7) (pv 10) (fun _ _ => rfl)) (pa_cons (pe_ix ix_tup (pv 8) (pv 10) (fun _ _ => rfl)) pa_nil)))))
          (pss_one (ps_if (pt_cmp (pc_dnotin hu (pv 11) (pv 4)))
            (pss_cons (ps_dput hu (pv 4) (pv 11) pe_bl rfl)
            (pss_one (ps_expr (pe_bm PySem.F.plainAttrs_list PySem.F.slot_list_append PySem.F.type_list_append mt_append (pv 5) (pa_cons (pv 11) pa_nil)))))
            pss_nil)))))))))))
      (pss_one (ps_ret pe_bl))))), ?_⟩
    -- seen = {(0, 0, 0): True}
    refine fun d hd => ⟨(by show 3 ≤ sizeLine; decide), fun t ht => ?_⟩
    have ndt : d ≠ t := fun z => by rw [← z, upd_same] at ht; cases ht
    have ht0 : H t = none := by rw [upd_ne ndt.symm] at ht; exact ht
    refine ⟨by rw [upd_ne ndt, upd_same], [Sum.inl 0, Sum.inl 0, Sum.inl 0], ⟨t, rfl, upd_same⟩, ?_⟩
    have s1 : Same H (upd (upd (upd H d (Kd.t.mk [])) t (.tup [.int 0, .int 0, .int 0])) d (Kd.t.mk [([Sum.inl 0, Sum.inl 0, Sum.inl 0], .bl true)])) := ((same_upd hd).put ht0).put hd
    have hd1 : upd (upd (upd H d (Kd.t.mk [])) t (.tup [.int 0, .int 0, .int 0])) d (Kd.t.mk [([Sum.inl 0, Sum.inl 0, Sum.inl 0], .bl true)]) d = some (cTrio.k.mk [(cTrio.key (0, 0, 0), .bl true)]) := upd_same
    generalize upd (upd (upd H d (Kd.t.mk [])) t (.tup [.int 0, .int 0, .int 0])) d (Kd.t.mk [([Sum.inl 0, Sum.inl 0, Sum.inl 0], .bl true)]) = H1 at s1 hd1
    refine ⟨(by show 3 ≤ sizeLine; decide), fun t1 ht1 => ?_⟩
    have s2 : Same H1 (upd H1 t1 (.tup [.int 0, .int 0, .int 0])) := same_upd ht1
    have ht12 : upd H1 t1 (.tup [.int 0, .int 0, .int 0]) t1 = some (.tup [.int 0, .int 0, .int 0]) := upd_same
    generalize upd H1 t1 (.tup [.int 0, .int 0, .int 0]) = H2 at s2 ht12
    refine ⟨(by show 1 ≤ sizeLine; decide), fun m hm => ?_⟩
    have s3 : Same H2 (upd H2 m (.lst [.ref t1])) := same_upd hm
    have hm0 : H m = none := (s1.trans s2).none hm
    have ndm : d ≠ m := ne_of_none (s2 _ _ hd1) hm
    have hP0 : cTrio.isP (upd H2 m (.lst [.ref t1])) (0, 0, 0) (.ref t1) := ⟨t1, rfl, s3 _ _ ht12⟩
    refine while_by (fun σ H3 => ∃ (seen td : List (Nat × Nat × Nat)) (kvs : List (cTrio.k.κ × V)) (ms : List V) (v6 v7 v8 v9 v10 v11 : Option V), σ = [some (.ref c), some (.ref a), some (.ref b), some (.int (way : Int)), some (.ref d), some (.ref m), v6, v7, v8, v9, v10, v11] ∧ Same H H3 ∧ H3 d = some (cTrio.k.mk kvs) ∧ kvs.map (·.1) = seen.map cTrio.key ∧ H3 m = some (.lst ms) ∧ TodoAt cTrio H3 ms td ∧ Dfs G seen td ∧ td.length ≤ seen.length)
      (fun σ H3 => 2 * (G.B - lenOf (H3 d)) + lenOf (H3 m))
      ⟨[(0, 0, 0)], [(0, 0, 0)], [(cTrio.key (0, 0, 0), .bl true)], [.ref t1], none, none, none, none, none, none, rfl, (s1.trans s2).trans s3, s3 _ _ (s2 _ _ hd1), rfl, upd_same, ⟨rfl, fun i v e e1 e2 => ?_⟩, hGs ▸ Dfs.start G, Nat.le_refl _⟩ ?_ ?_
    · match i, e1, e2 with
      | 0, e1, e2 => cases e1; cases e2; exact hP0
      | i + 1, e1, e2 => simp at e2
    · rintro σ H3 ⟨seen, td, kvs, ms, v6, v7, v8, v9, v10, v11, rfl, s4, hd3, hkv, hm3, hTd, hD, hbd⟩
      refine ⟨_, rfl, Nat.zero_le _, fun x hx => ?_⟩
      have s5 : Same H3 (upd H3 x (.lst [])) := same_upd hx
      refine ⟨m, x, _, _, _, rfl, rfl, SqL.of (s5 _ _ hm3), SqL.of upd_same, eqLs_nil, _, rfl, ?_⟩
      have hd5 := s5 _ _ hd3
      have hm5 := s5 _ _ hm3
      have hT5 := hTd.same fun t xs z => s5 _ _ z
      have s45 := s4.trans s5
      generalize upd H3 x (.lst []) = H4 at s5 hd5 hm5 hT5 s45
      rcases List.eq_nil_or_concat ms with rfl | ⟨ms', vl, rfl⟩
      · refine ifF (by simp) ?_
        exact k H4 s45
      · rw [List.concat_eq_append] at *
        refine ifT (by simp) ?_
        obtain ⟨td', pq, rfl, hT6, hP⟩ := hT5.split
        obtain ⟨hD', hR, hU⟩ := hD.pop
        obtain ⟨x1, y1, z1⟩ := pq
        obtain ⟨t2, rfl, ht2⟩ := hP
        have ht2 : H4 t2 = some (.tup [.int (x1 : Int), .int (y1 : Int), .int (z1 : Int)]) := ht2
        -- trio = todo.pop()
        refine ⟨_, rfl, .inl ⟨rfl, _, SqL.of hm5⟩, m, _, .ref t2, rfl, rfl, hm5, (by simp), ?_⟩
        rw [List.dropLast_concat]
        have s6 : Same H (upd H4 m (.lst ms')) := s45.put hm0
        have tu6 : ∀ t xs, H4 t = some (.tup xs) → upd H4 m (.lst ms') t = some (.tup xs) := fun t xs z => by rw [upd_ne (ne_of z hm5 (by intro z; cases z))]; exact z
        have hd6 : upd H4 m (.lst ms') d = some (cTrio.k.mk kvs) := by rw [upd_ne ndm]; exact hd5
        have hm6 : upd H4 m (.lst ms') m = some (.lst ms') := upd_same
        have ht6 := tu6 _ _ ht2
        have hT7 := hT6.same tu6
        generalize upd H4 m (.lst ms') = H5 at s6 tu6 hd6 hm6 ht6 hT7
        obtain ⟨hxl, hyl, hzl⟩ := hGU _ _ _ hU
        have e0 : fs[x1]? = some fs[x1] := by simp [hxl]
        have e1 : hs[y1]? = some hs[y1] := by simp [hyl]
        have e2 : gs[z1]? = some gs[z1] := by simp [hzl]
        have l0 : litAt fs x1 = fs[x1].lit := by rw [litAt, e0]
        have l1 : litAt hs y1 = hs[y1].lit := by rw [litAt, e1]
        have l2 : litAt gs z1 = gs[z1].lit := by rw [litAt, e2]
        have st0 : ∀ b, stp fs x1 b = if b then fs[x1].r else fs[x1].l := fun b => by rw [stp, e0]
        have st1 : ∀ b, stp hs y1 b = if b then hs[y1].r else hs[y1].l := fun b => by rw [stp, e1]
        have st2 : ∀ b, stp gs z1 b = if b then gs[z1].r else gs[z1].l := fun b => by rw [stp, e2]
        have hll := hlit _ _ _ hR
        obtain ⟨p1, hq1, hp1, hat1⟩ := (ha.same s6).get e1
        obtain ⟨p2, hq2, hp2, hat2⟩ := (hb.same s6).get e2
        generalize hs[y1] = r1 at e1 l1 st1 hp1
        generalize gs[z1] = r2 at e2 l2 st2 hp2
        rw [l0, l1, l2] at hll
        refine ⟨_, rfl, _, rfl, t2, _, _, _, rfl, rfl, SqT.of ht6, rfl, a, _, _, _, rfl, rfl, SqL.of (ha.same s6).ob, hat1, ?_⟩
        refine ⟨_, rfl, _, rfl, t2, _, _, _, rfl, rfl, SqT.of ht6, rfl, b, _, _, _, rfl, rfl, SqL.of (hb.same s6).ob, hat2, ?_⟩
        -- due
        refine ⟨_, rfl, p1, _, _, _, rfl, rfl, SqT.of hp1, rfl, _, rfl, _, rfl, p1, _, _, _, rfl, rfl, SqT.of hp1, rfl, r1.lit, r2.lit, rfl, ⟨_, rfl, p2, _, _, _, rfl, rfl, SqT.of hp2, rfl, rfl, rfl⟩, ?_⟩
        refine ⟨_, rfl, p1, _, _, _, rfl, rfl, SqT.of hp1, rfl, r1.lit, r2.lit, rfl, ⟨_, rfl, p2, _, _, _, rfl, rfl, SqT.of hp2, rfl, rfl, rfl⟩, ?_⟩
        refine ⟨(by show 3 ≤ sizeLine; decide), fun u hu' => ?_⟩
        have s6' : Same H5 (upd H5 u (.lst [.bl (!r1.lit), .bl (r1.lit && r2.lit), .bl (r1.lit || r2.lit)])) := same_upd hu'
        have hu6 : upd H5 u (.lst [.bl (!r1.lit), .bl (r1.lit && r2.lit), .bl (r1.lit || r2.lit)]) u = some (.lst [.bl (!r1.lit), .bl (r1.lit && r2.lit), .bl (r1.lit || r2.lit)]) := upd_same
        have hdue : atI [V.bl (!r1.lit), V.bl (r1.lit && r2.lit), V.bl (r1.lit || r2.lit)] (way : Int) = some (.bl (dueB way r1.lit r2.lit)) := by
          match way, hway with
          | 0, _ => rfl
          | 1, _ => rfl
          | 2, _ => rfl
        refine ⟨_, rfl, u, _, _, _, rfl, rfl, SqL.of hu6, hdue, ?_⟩
        have s7 := s6.trans s6'
        have hd7 := s6' _ _ hd6
        have hm7 := s6' _ _ hm6
        have ht7 := s6' _ _ ht6
        have hp17 := s6' _ _ hp1
        have hp27 := s6' _ _ hp2
        have hT8 := hT7.same fun t xs z => s6' _ _ z
        generalize upd H5 u (.lst [.bl (!r1.lit), .bl (r1.lit && r2.lit), .bl (r1.lit || r2.lit)]) = H6 at s6' s7 hd7 hm7 ht7 hp17 hp27 hT8
        obtain ⟨p0, hq0, hp0, hat0⟩ := (hc.same s7).get e0
        generalize fs[x1] = r0 at e0 l0 st0 hp0 hll
        refine ⟨_, rfl, _, rfl, t2, _, _, _, rfl, rfl, SqT.of ht7, rfl, c, _, _, _, rfl, rfl, SqL.of (hc.same s7).ob, hat0, p0, _, _, _, rfl, rfl, SqT.of hp0, rfl, _, rfl, rfl, _, rfl, ?_⟩
        refine ifF (by rw [hll]; simp) ?_
        -- for turn in range(2)
        refine ⟨2, rfl, by decide, by decide, for_range (lo := 0) (n := 2) (fun j σ H6 => ∃ (seen td : List (Nat × Nat × Nat)) (kvs : List (cTrio.k.κ × V)) (ms : List V) (v10 v11 : Option V), σ = [some (.ref c), some (.ref a), some (.ref b), some (.int (way : Int)), some (.ref d), some (.ref m), some (.ref t2), some (.ref p1), some (.ref p2), some (.bl (dueB way r1.lit r2.lit)), v10, v11] ∧ Same H H6 ∧ H6 d = some (cTrio.k.mk kvs) ∧ kvs.map (·.1) = seen.map cTrio.key ∧ H6 m = some (.lst ms) ∧ TodoAt cTrio H6 ms td ∧ Dfs G seen td ∧ td.length ≤ seen.length ∧
            H6 t2 = some (.tup [.int (x1 : Int), .int (y1 : Int), .int (z1 : Int)]) ∧ H6 p0 = some (.tup (rmV r0)) ∧ H6 p1 = some (.tup (rmV r1)) ∧ H6 p2 = some (.tup (rmV r2)) ∧ 2 * (G.B - kvs.length) + ms.length < 2 * (G.B - lenOf (H3 d)) + lenOf (H3 m))
          ⟨seen, td', kvs, ms', _, _, rfl, s7, hd7, hkv, hm7, hT8, hD', ?_, ht7, hp0, hp17, hp27, ?_⟩ ?_ ?_⟩
        · rw [List.length_append] at hbd
          omega
        · rw [hd3, hm3]
          show 2 * (G.B - kvs.length) + ms'.length < 2 * (G.B - kvs.length) + (ms' ++ [V.ref t2]).length
          simp
        · rintro j σ H6 hj ⟨seen, td, kvs, ms, v10, v11, rfl, s7, hd7, hkv7, hm7, hT8, hD7, hbd7, ht7, hp07, hp17, hp27, hmea⟩
          rw [Int.zero_add]
          obtain ⟨bb, hjb⟩ : ∃ bb : Bool, j = if bb then 1 else 0 := by
            match j, hj with
            | 0, _ => exact ⟨false, rfl⟩
            | 1, _ => exact ⟨true, rfl⟩
          have i0 : atI (rmV r0) (j : Int) = some (.int ((stp fs x1 bb : Nat) : Int)) := by rw [st0, hjb]; cases bb <;> rfl
          have i1 : atI (rmV r1) (j : Int) = some (.int ((stp hs y1 bb : Nat) : Int)) := by rw [st1, hjb]; cases bb <;> rfl
          have i2 : atI (rmV r2) (j : Int) = some (.int ((stp gs z1 bb : Nat) : Int)) := by rw [st2, hjb]; cases bb <;> rfl
          have hUn : G.U (G.nx (x1, y1, z1) bb) := G.cl _ _ hU
          have hnx := hGn x1 y1 z1 bb
          have hat07 : atI (os.map V.ref) (x1 : Int) = some (.ref p0) := hat0
          refine ⟨_, rfl, _, rfl, t2, _, _, _, rfl, rfl, SqT.of ht7, rfl, c, _, _, _, rfl, rfl, SqL.of (hc.same s7).ob, hat07, _, rfl, p0, _, _, _, rfl, rfl, SqT.of hp07, i0, _, rfl, _, rfl, p1, _, _, _, rfl, rfl, SqT.of hp17, i1, _, rfl, _, rfl, p2, _, _, _, rfl, rfl, SqT.of hp27, i2, (by show 3 ≤ sizeLine; decide), fun t3 ht3 => ?_⟩
          have s8 : Same H6 (upd H6 t3 (.tup [.int ((stp fs x1 bb : Nat) : Int), .int ((stp hs y1 bb : Nat) : Int), .int ((stp gs z1 bb : Nat) : Int)])) := same_upd ht3
          have hP8 : cTrio.isP (upd H6 t3 (.tup [.int ((stp fs x1 bb : Nat) : Int), .int ((stp hs y1 bb : Nat) : Int), .int ((stp gs z1 bb : Nat) : Int)])) (G.nx (x1, y1, z1) bb) (.ref t3) := by rw [hnx]; exact ⟨t3, rfl, upd_same⟩
          generalize upd H6 t3 (.tup [.int ((stp fs x1 bb : Nat) : Int), .int ((stp hs y1 bb : Nat) : Int), .int ((stp gs z1 bb : Nat) : Int)]) = H7 at s8 hP8
          have hd8 := s8 _ _ hd7
          have hm8 := s8 _ _ hm7
          have hT9 := hT8.same fun t xs z => s8 _ _ z
          refine ⟨_, rfl, _, rfl, d, _, rfl, Kd.get hd8 hP8, _, rfl, ?_⟩
          by_cases hin : G.nx (x1, y1, z1) bb ∈ seen
          · refine ifF (by rw [(seen_has hkv7 inj hD7.u hUn).mpr hin]; rfl) ?_
            exact ⟨seen, td, kvs, ms, _, _, rfl, s7.trans s8, hd8, hkv7, hm8, hT9, hD7, hbd7, s8 _ _ ht7, s8 _ _ hp07, s8 _ _ hp17, s8 _ _ hp27, hmea⟩
          · have hno : (valV kvs (cTrio.key (G.nx (x1, y1, z1) bb))).isSome = false := by
              cases e : (valV kvs (cTrio.key (G.nx (x1, y1, z1) bb))).isSome with
              | false => rfl
              | true => exact absurd ((seen_has hkv7 inj hD7.u hUn).mp e) hin
            refine ifT (by rw [hno]; rfl) ?_
            have hkl : kvs.length = seen.length := by have := congrArg List.length hkv7; simpa using this
            have hsl := hD7.len
            have hD8 := hD7.push hR hU hin
            have hsl8 := hD8.len
            rw [List.length_append] at hsl8
            have hml : ms.length = td.length := hT8.1
            refine ⟨_, rfl, _, rfl, d, _, rfl, Kd.put hd8 hP8 (by rw [hkl, sizeLine_eq]; omega), ?_⟩
            have tu9 : ∀ t xs, H7 t = some (.tup xs) → upd H7 d (cTrio.k.mk (putK kvs (cTrio.key (G.nx (x1, y1, z1) bb)) (.bl true))) t = some (.tup xs) := fun t xs z => by rw [upd_ne (ne_of z hd8 (fun y => Kd.nt _ y.symm))]; exact z
            have hm9 : upd H7 d (cTrio.k.mk (putK kvs (cTrio.key (G.nx (x1, y1, z1) bb)) (.bl true))) m = some (.lst ms) := by rw [upd_ne ndm.symm]; exact hm8
            refine ⟨_, rfl, .inl ⟨rfl, _, SqL.of hm9⟩, _, rfl, m, _, _, rfl, rfl, hm9, (by rw [hml, sizeLine_eq]; omega), ?_⟩
            have tuA : ∀ t xs, H7 t = some (.tup xs) → upd (upd H7 d (cTrio.k.mk (putK kvs (cTrio.key (G.nx (x1, y1, z1) bb)) (.bl true)))) m (.lst (ms ++ [.ref t3])) t = some (.tup xs) := fun t xs z => by rw [upd_ne (ne_of (tu9 _ _ z) hm9 (by intro z; cases z))]; exact tu9 _ _ z
            have hpk := seen_put (v := .bl true) hkv7 inj hD7.u hUn hin
            have hpl : (putK kvs (cTrio.key (G.nx (x1, y1, z1) bb)) (.bl true)).length = seen.length + 1 := by have := congrArg List.length hpk; simpa using this
            refine ⟨seen ++ [G.nx (x1, y1, z1) bb], td ++ [G.nx (x1, y1, z1) bb], _, ms ++ [.ref t3], _, _, rfl, ((s7.trans s8).put hd).put hm0, by rw [upd_ne ndm, upd_same], hpk, upd_same, (hT9.same tuA).snoc (hP8.same tuA), hD8, ?_, tuA _ _ (s8 _ _ ht7), tuA _ _ (s8 _ _ hp07), tuA _ _ (s8 _ _ hp17), tuA _ _ (s8 _ _ hp27), ?_⟩
            · rw [List.length_append, List.length_append]
              exact Nat.add_le_add_right hbd7 1
            · rw [hpl, List.length_append]
              simp at hsl8 ⊢
              omega
        · rintro σ H6 ⟨seen, td, kvs, ms, v10, v11, rfl, s7, hd7, hkv7, hm7, hT8, hD7, hbd7, ht7, hp07, hp17, hp27, hmea⟩
          refine ⟨⟨seen, td, kvs, ms, _, _, _, _, _, _, rfl, s7, hd7, hkv7, hm7, hT8, hD7, hbd7⟩, ?_⟩
          rw [hd7, hm7]
          exact hmea
    · intro σ H3 Q1 Q2 hq hc
      obtain ⟨x, e1, hz, hall⟩ := hc
      refine ⟨x, e1, hz, fun p hp => ?_⟩
      obtain ⟨y1, y2, y3, y4, y5, y6, y7, y8, y9, y10, b, e3, q1⟩ := hall p hp
      exact ⟨y1, y2, y3, y4, y5, y6, y7, y8, y9, y10, b, e3, hq _ _ q1⟩
end
end Law

set_option maxHeartbeats 8000000
namespace Law
open PySem L2 Hs PyProof.Rows
section
variable {P : Program} {w : World} {K : PySem.W.Frag} {mg : Str → Option Value} {base : Heap} {f : Addr} {fd : FuncData}
def spLaw (K : PySem.W.Frag) (tabs : Tbs) : Sp := fun vs H Q _ => ∃ (a : Addr) (ns : List Int), vs = [.ref a] ∧ SqL K H a (ns.map V.int) ∧ ns.length ≤ 63 ∧ TB tabs H ∧ ∀ H', Q (.bl true) H'
theorem sIx_le3 (n : Nat) (lo hi : Nat) : HT.sIx n n (some (hi : Int)) - HT.sIx n 0 (some (lo : Int)) ≤ hi - lo := by
  rw [HT.sIx_nat, HT.sIx_nat]
  omega
theorem sc_law : FnScope ["_law_script", "_law_most", "_law_one", "_law_other", "_law_handed", "_law_houses", "_law_way"] ["_law_script"] (defScope (top 20)) := ⟨rfl, rfl, rfl, by decide +kernel, rfl, by decide +kernel, by decide +kernel⟩
theorem ok_law {fe fl fp fi fy fo fb fet fa fd' fih fw fu fag fwd c Pt ci Pi ce Pe : Addr} {de dl dp di dy do' db det da dd dih dw du dag dwd : FuncData} {tabs : Tbs} (F : Fun K "law" "law" (top 20) f fd) (T : Blt mg) (hB : BMain mg base) (nd : (tabs.map (·.1)).Nodup)
    (Mi : Mkr base di tabs ci Pi (lamQs "exits_in_pairs")) (M : Mkr base db tabs c Pt (defQs "both" "lit")) (Me : Mkr base det tabs ce Pe (defQs "either" "lit"))
    (Lo : Df K mg "lay_out" 1 ["start", "exits", "lit"] fy dy) (Ex : Df K mg "exits_of" 3 ["house", "room"] fe de) (Li : Df K mg "is_lit" 4 ["house", "room"] fl dl) (Ep : Df K mg "exits_of_pair" 6 ["one", "other", "pair"] fp dp) (Ei : Df K mg "exits_in_pairs" 7 ["one", "other"] fi di)
    (Op : Df K mg "opposite" 9 ["house"] fo do') (Bo : Df K mg "both" 10 ["one", "other"] fb db) (Et : Df K mg "either" 11 ["one", "other"] fet det)
    (At : Df K mg "_law_at" 14 ["_law_script", "_law_k"] fa da) (Dr : Df K mg "_law_drawn" 15 ["_law_cells"] fd' dd) (IH : Df K mg "_law_is_house" 16 ["_law_found"] fih dih) (W : Df K mg "_law_whole" 13 ["_law_found"] fw dw) (Un : Df K mg "_law_unhurt" 17 ["_law_handed", "_law_house"] fu du)
    (Ag : Df K mg "_law_agrees" 18 ["_law_found", "_law_one", "_law_other", "_law_way"] fag dag) (Wd : Df K mg "_law_wide" 19 ["_law_script", "_law_most", "_law_bound"] fwd dwd) :
    FnOk P w K mg base CX0 6 f fd ["_law_script"] (spLaw K tabs) := by
  have G_at : FnOk P w K mg base CX0 5 fa da ["_law_script", "_law_k"] (spAt K) := (ok_at At.fn T).mono (by decide)
  have G_drawn : FnOk P w K mg base CX0 5 fd' dd ["_law_cells"] (spDrawn K) := (ok_drawn Dr.fn T).mono (by decide)
  have G_unhurt : FnOk P w K mg base CX0 5 fu du ["_law_handed", "_law_house"] spUnhurt := (ok_unhurt Un.fn T W IH).mono (by decide)
  have G_ish : FnOk P w K mg base CX0 5 fih dih ["_law_found"] spIsHouse := (ok_ish IH.fn T W).mono (by decide)
  have G_agrees : FnOk P w K mg base CX0 5 fag dag ["_law_found", "_law_one", "_law_other", "_law_way"] spAgrees := (ok_agrees Ag.fn T).mono (by decide)
  have G_wide : FnOk P w K mg base CX0 5 fwd dwd ["_law_script", "_law_most", "_law_bound"] (spWide K) := (ok_wide Wd.fn T).mono (by decide)
  have G_opp : FnOk P w K mg base CX0 5 fo do' ["house"] spOpp := (ok_opp Op.fn).mono (by decide)
  have G_both : FnOk P w K mg base CX0 5 fb db ["one", "other"] (spBE tabs and) := ok_both Bo.fn T hB nd M Ex Li Ep Ei Mi Lo
  have G_either : FnOk P w K mg base CX0 5 fet det ["one", "other"] (spBE tabs or) := ok_either Et.fn T hB nd Me Ex Li Ep Ei Mi Lo
  refine F.ok sc_law (fun vs H Q E h => ?_) (fun cdv A outer s H vs Q E hr h => ?_)
  · obtain ⟨a, ns, rfl, _⟩ := h
    rfl
  · obtain ⟨a, ns, rfl, hS, hn, hT, k⟩ := h
    refine ⟨_, (pss_cons (ps_set (i := 1) sc_law.nd rfl (Or.inl rfl) (pe_call G_wide hr rfl Wd.m Wd.fn.kp Wd.b .nil pass0 (pa_cons (pv 0) (pa_cons pe_int (pa_cons pe_int pa_nil)))))
      (pss_cons (ps_set (i := 2) sc_law.nd rfl (Or.inl rfl) (pe_call G_drawn hr rfl Dr.m Dr.fn.kp Dr.b .nil pass0 (pa_cons (pe_slice sl_list (pv 0) (po_some pe_int) (po_some (pe_op op_add pe_int (pe_op op_mod (pe_call G_at hr rfl At.m At.fn.kp At.b .nil pass0 (pa_cons (pv 0) (pa_cons pe_int pa_nil))) (pv 1))))) pa_nil)))
      (pss_cons (ps_set (i := 3) sc_law.nd rfl (Or.inl rfl) (pe_call G_drawn hr rfl Dr.m Dr.fn.kp Dr.b .nil pass0 (pa_cons (pe_slice sl_list (pv 0) (po_some (pe_op op_add pe_int (pv 1))) (po_some (pe_op op_add (pe_op op_add pe_int (pv 1)) (pe_op op_mod (pe_call G_at hr rfl At.m At.fn.kp At.b .nil pass0 (pa_cons (pv 0) (pa_cons pe_int pa_nil))) (pv 1))))) pa_nil)))
      (pss_cons (ps_set (i := 4) sc_law.nd rfl (Or.inl rfl) (pe_lst (pa_cons (pe_callTy call_list_of (by rfl) T.list boot_list (pa_cons (pv 2) pa_nil)) (pa_cons (pe_callTy call_list_of (by rfl) T.list boot_list (pa_cons (pv 3) pa_nil)) pa_nil))))
      (pss_cons (ps_set (i := 5) sc_law.nd rfl (Or.inl rfl) (pe_lst (pa_cons (pe_call G_opp hr rfl Op.m Op.fn.kp Op.b .nil pass0 (pa_cons (pe_ix ix_list (pv 4) pe_int (fun _ _ => rfl)) pa_nil)) (pa_cons (pe_call G_both hr rfl Bo.m Bo.fn.kp Bo.b .nil pass0 (pa_cons (pe_ix ix_list (pv 4) pe_int (fun _ _ => rfl)) (pa_cons (pe_ix ix_list (pv 4) pe_int (fun _ _ => rfl)) pa_nil))) pa_nil))))
      (pss_cons (ps_expr (pe_bm PySem.F.plainAttrs_list PySem.F.slot_list_append PySem.F.type_list_append mt_append (pv 5) (pa_cons (pe_call G_either hr rfl Et.m Et.fn.kp Et.b .nil pass0 (pa_cons (pe_ix ix_list (pv 4) pe_int (fun _ _ => rfl)) (pa_cons (pe_ix ix_list (pv 4) pe_int (fun _ _ => rfl)) pa_nil))) pa_nil)))
      (pss_cons (ps_if (PW.pt (pw_or (pt_not (pt_val (pe_call G_unhurt hr rfl Un.m Un.fn.kp Un.b .nil pass0 (pa_cons (pe_ix ix_list (pv 4) pe_int (fun _ _ => rfl)) (pa_cons (pv 2) pa_nil))))) (pw_or1 (pt_not (pt_val (pe_call G_unhurt hr rfl Un.m Un.fn.kp Un.b .nil pass0 (pa_cons (pe_ix ix_list (pv 4) pe_int (fun _ _ => rfl)) (pa_cons (pv 3) pa_nil))))))))
        (pss_one (ps_ret pe_bl))
        pss_nil)
      (pss_cons (ps_for PassesOwn.never rfl (pi_range1 rfl T.range (pa_cons pe_int pa_nil)) (pg_name (i := 6) sc_law.nd rfl (Or.inl rfl))
        (pss_cons (ps_if (pt_not (pt_val (pe_call G_ish hr rfl IH.m IH.fn.kp IH.b .nil pass0 (pa_cons (pe_ix ix_list (pv 5) (pv 6) (fun _ _ => rfl)) pa_nil))))
          (pss_one (ps_ret pe_bl))
          pss_nil)
        (pss_one (ps_if (pt_not (pt_val (pe_call G_agrees hr rfl Ag.m Ag.fn.kp Ag.b .nil pass0 (pa_cons (pe_ix ix_list (pv 5) (pv 6) (fun _ _ => rfl)) (pa_cons (pv 2) (pa_cons (pv 3) (pa_cons (pv 6) pa_nil)))))))
          (pss_one (ps_ret pe_bl))
          pss_nil))))
      (pss_one (ps_ret pe_bl)))))))))), ?_⟩
    -- most, one, other
    refine ⟨_, rfl, a, ns, 6, 30, rfl, hS, hn, ?_⟩
    obtain ⟨k0, ek0, hk0⟩ := mod_nat (ns.getD 0 0) (show 0 < 6 by decide)
    obtain ⟨k1, ek1, hk1⟩ := mod_nat (ns.getD 1 0) (show 0 < 6 by decide)
    refine ⟨_, rfl, _, rfl, _, rfl, a, ns, 0, rfl, hS, _, rfl, _, _, rfl, rfl, (by show (0 : Int) < 6; decide), _, _, rfl, rfl, _, rfl, a, _, rfl, hS, fun c0 hc0 => ?_⟩
    obtain ⟨ms, hms, hml, hml2⟩ := cutV_ints ns (some 2) (some (3 + ns.getD 0 0 % 6))
    rw [hms]
    have hml3 : ms.length ≤ 6 := by
      rw [show (3 : Int) + ns.getD 0 0 % 6 = ((3 + k0 : Nat) : Int) by rw [show ns.getD 0 0 % 6 = (k0 : Int) from ek0]; omega] at hml2
      have := sIx_le3 ns.length 2 (3 + k0)
      have e2 : HT.sIx ns.length 0 (some ((2 : Nat) : Int)) = HT.sIx ns.length 0 (some 2) := rfl
      rw [e2] at this
      omega
    have s1 : Same H (upd H c0 (.lst (ms.map V.int))) := same_upd hc0
    refine ⟨c0, ms, rfl, SqL.of upd_same, by omega, fun l1 ps H1 hl1 s2 ha1 => ?_⟩
    have sA := s1.trans s2
    have hd1 : (drawn ms).length ≤ 6 := by rw [drawn_length]; omega
    have wf := drawn_wf ms
    generalize drawn ms = hs at ha1 hd1 wf
    refine ⟨_, rfl, _, rfl, _, _, rfl, rfl, _, rfl, _, rfl, _, _, rfl, rfl, _, rfl, a, ns, 1, rfl, sA.seq hS, _, rfl, _, _, rfl, rfl, (by show (0 : Int) < 6; decide), _, _, rfl, rfl, _, rfl, a, _, rfl, sA.seq hS, fun c1 hc1 => ?_⟩
    obtain ⟨ms2, hms2, hmk, hmk2⟩ := cutV_ints ns (some (2 + 6)) (some (3 + 6 + ns.getD 1 0 % 6))
    rw [hms2]
    have hmk3 : ms2.length ≤ 6 := by
      rw [show (3 : Int) + 6 + ns.getD 1 0 % 6 = ((9 + k1 : Nat) : Int) by rw [show ns.getD 1 0 % 6 = (k1 : Int) from ek1]; omega] at hmk2
      have := sIx_le3 ns.length 8 (9 + k1)
      have e2 : HT.sIx ns.length 0 (some ((8 : Nat) : Int)) = HT.sIx ns.length 0 (some (2 + 6)) := rfl
      rw [e2] at this
      omega
    have s3 : Same H1 (upd H1 c1 (.lst (ms2.map V.int))) := same_upd hc1
    refine ⟨c1, ms2, rfl, SqL.of upd_same, by omega, fun l2 qs H2 hl2 s4 hb2 => ?_⟩
    have sB := sA.trans (s3.trans s4)
    have ha2 := ha1.same (s3.trans s4)
    have hd2 : (drawn ms2).length ≤ 6 := by rw [drawn_length]; omega
    have wg := drawn_wf ms2
    generalize drawn ms2 = gs at hb2 hd2 wg
    have hfw : hs.length * gs.length ≤ 36 := Nat.mul_le_mul hd1 hd2
    -- handed
    refine ⟨_, rfl, l1, _, rfl, .inl (SqL.of ha2.ob), fun h1 hh1 => ?_⟩
    have s4 : Same H2 (upd H2 h1 (.lst (ps.map V.ref))) := same_upd hh1
    have hx4 : HouseAt (upd H2 h1 (.lst (ps.map V.ref))) h1 ps hs := ⟨upd_same, ha2.rm.same s4⟩
    have ha4 := ha2.same s4
    have hb4 := hb2.same s4
    generalize upd H2 h1 (.lst (ps.map V.ref)) = H4 at s4 hx4 ha4 hb4
    refine ⟨_, rfl, l2, _, rfl, .inl (SqL.of hb4.ob), fun h2 hh2 => ?_⟩
    have s5 : Same H4 (upd H4 h2 (.lst (qs.map V.ref))) := same_upd hh2
    have hy5 : HouseAt (upd H4 h2 (.lst (qs.map V.ref))) h2 qs gs := ⟨upd_same, hb4.rm.same s5⟩
    have hx5 := hx4.same s5
    have ha5 := ha4.same s5
    have hb5 := hb4.same s5
    generalize upd H4 h2 (.lst (qs.map V.ref)) = H5 at s5 hx5 hy5 ha5 hb5
    refine ⟨(by show 2 ≤ sizeLine; decide), fun hd hhd => ?_⟩
    have s6 : Same H5 (upd H5 hd (.lst [.ref h1, .ref h2])) := same_upd hhd
    have hd6 : upd H5 hd (.lst [.ref h1, .ref h2]) hd = some (.lst [.ref h1, .ref h2]) := upd_same
    have hx6 := hx5.same s6
    have hy6 := hy5.same s6
    have ha6 := ha5.same s6
    have hb6 := hb5.same s6
    have sT : Same H (upd H5 hd (.lst [.ref h1, .ref h2])) := ((sB.trans s4).trans s5).trans s6
    generalize upd H5 hd (.lst [.ref h1, .ref h2]) = H6 at s6 hd6 hx6 hy6 ha6 hb6 sT
    -- opposite
    refine ⟨_, rfl, hd, _, _, _, rfl, rfl, SqL.of hd6, rfl, h1, ps, hs, rfl, hx6, by omega, fun o1 p1 H7 ho1 s7 hA7 => ?_⟩
    have hd7 := s7 _ _ hd6
    have hx7 := hx6.same s7
    have hy7 := hy6.same s7
    -- both
    refine ⟨_, rfl, hd, _, _, _, rfl, rfl, SqL.of hd7, rfl, _, rfl, hd, _, _, _, rfl, rfl, SqL.of hd7, rfl, h1, h2, ps, qs, hs, gs, rfl, hx7, hy7, wf, wg, by omega, hT.same (sT.trans s7), fun o2 p2 rs2 H8 ho2 s8 hT8 hB8 w2 hl2' hw2 => ?_⟩
    have hd8 := s8 _ _ hd7 (fun _ z => by cases z)
    have hx8 := hx7.sam s8
    have hy8 := hy7.sam s8
    have hA8 := hA7.sam s8
    have ha8 := (ha6.same s7).sam s8
    have hb8 := (hb6.same s7).sam s8
    refine ⟨(by show 2 ≤ sizeLine; decide), fun L hL => ?_⟩
    have s9 : Same H8 (upd H8 L (.lst [.ref o1, .ref o2])) := same_upd hL
    have hL9 : upd H8 L (.lst [.ref o1, .ref o2]) L = some (.lst [.ref o1, .ref o2]) := upd_same
    generalize upd H8 L (.lst [.ref o1, .ref o2]) = H9 at s9 hL9
    have hd9 := s9 _ _ hd8
    -- either
    refine ⟨_, rfl, .inl ⟨rfl, _, SqL.of hL9⟩, _, rfl, hd, _, _, _, rfl, rfl, SqL.of hd9, rfl, _, rfl, hd, _, _, _, rfl, rfl, SqL.of hd9, rfl, h1, h2, ps, qs, hs, gs, rfl, hx8.same s9, hy8.same s9, wf, wg, by omega, hT8.same s9, fun o3 p3 rs3 HA ho3 sA' hTA hC8 w3 hl3' hw3 => ?_⟩
    have hLA := sA' _ _ hL9 (fun _ z => by cases z)
    have hdA := sA' _ _ hd9 (fun _ z => by cases z)
    refine ⟨L, _, _, rfl, rfl, hLA, by show 2 < sizeLine; decide, ?_⟩
    have tuL : ∀ b u, HA b = some u → b ≠ L → upd HA L (.lst ([.ref o1, .ref o2] ++ [.ref o3])) b = some u := fun b u e n => by rw [upd_ne n]; exact e
    have hLB : upd HA L (.lst ([.ref o1, .ref o2] ++ [.ref o3])) L = some (.lst [.ref o1, .ref o2, .ref o3]) := upd_same
    have hsL : ∀ {x : Addr} {qs : List Addr} {zs : List Rm}, HouseAt H8 x qs zs → HouseAt (upd HA L (.lst ([.ref o1, .ref o2] ++ [.ref o3]))) x qs zs := fun {x qs zs} hx => by
      have h9 := (hx.same s9).sam sA'
      refine ⟨tuL _ _ h9.ob (ne_of_none hx.ob hL), h9.rm.1, fun i p r e1 e2 => tuL _ _ (h9.rm.2 i p r e1 e2) (ne_of (h9.rm.2 i p r e1 e2) hLA (by intro z; cases z))⟩
    have nhL : hd ≠ L := ne_of_none hd8 hL
    have no3 : o3 ≠ L := fun z => by
      obtain ⟨ps, e⟩ := ho3 _ (by rw [z]; exact hL9)
      cases e
    have hCB : HouseAt (upd HA L (.lst ([.ref o1, .ref o2] ++ [.ref o3]))) o3 p3 rs3 := ⟨tuL _ _ hC8.ob no3, hC8.rm.1, fun i p r e1 e2 => tuL _ _ (hC8.rm.2 i p r e1 e2) (ne_of (hC8.rm.2 i p r e1 e2) hLA (by intro z; cases z))⟩
    have hdB := tuL _ _ hdA nhL
    have hxB := hsL hx8
    have hyB := hsL hy8
    have haB := hsL ha8
    have hbB := hsL hb8
    have hAB := hsL hA8
    have hBB := hsL hB8
    generalize upd HA L (.lst ([.ref o1, .ref o2] ++ [.ref o3])) = HB at hLB hCB hdB hxB hyB haB hbB hAB hBB
    -- unhurt
    refine ⟨_, rfl, hd, _, _, _, rfl, rfl, SqL.of hdB, rfl, _, rfl, h1, l1, ps, hs, rfl, hxB, haB, wf, fun HC sC => ⟨_, rfl, iteF ?_⟩⟩
    refine ⟨_, rfl, hd, _, _, _, rfl, rfl, SqL.of (sC _ _ hdB), rfl, _, rfl, h2, l2, qs, gs, rfl, hyB.same sC, hbB.same sC, wg, fun HD sD => ⟨_, rfl, iteF ?_⟩⟩
    have sBD := sC.trans sD
    -- for way in range(3)
    refine ⟨3, rfl, by decide, by decide, for_range (lo := 0) (n := 3) (fun j σ HE => ∃ v6 : Option V, σ = [some (.ref a), some (.int 6), some (.ref l1), some (.ref l2), some (.ref hd), some (.ref L), v6] ∧ Same HB HE) ⟨none, rfl, sBD⟩ ?_ ?_⟩
    · rintro j σ HE hj ⟨v6, rfl, sE⟩
      rw [Int.zero_add]
      have hLE := sE _ _ hLB
      obtain ⟨oj, pj, rsj, hat, hhj, wj, hlj, hwj⟩ : ∃ (oj : Addr) (pj : List Addr) (rsj : List Rm), atI [V.ref o1, V.ref o2, V.ref o3] (j : Int) = some (.ref oj) ∧ HouseAt HB oj pj rsj ∧ Wf rsj ∧ rsj.length ≤ 36 ∧ ∀ wk, litAt rsj (led rsj 0 wk) = dueB j (litAt hs (led hs 0 wk)) (litAt gs (led gs 0 wk)) := by
        match j, hj with
        | 0, _ => exact ⟨o1, p1, _, rfl, hAB, opp_wf wf, by rw [List.length_map]; omega, fun wk => by rw [opp_led, opp_lit (wf.led wk wf.ne)]; rfl⟩
        | 1, _ => exact ⟨o2, p2, rs2, rfl, hBB, w2, by omega, hw2⟩
        | 2, _ => exact ⟨o3, p3, rs3, rfl, hCB, w3, by omega, hw3⟩
      refine ⟨_, rfl, _, rfl, L, _, _, _, rfl, rfl, SqL.of hLE, hat, oj, pj, rsj, rfl, hhj.same sE, wj, fun HF sF => ⟨_, rfl, iteF ?_⟩⟩
      have sEF := sE.trans sF
      refine ⟨_, rfl, _, rfl, L, _, _, _, rfl, rfl, SqL.of (sF _ _ hLE), hat, _, rfl, _, rfl, _, rfl, oj, l1, l2, pj, ps, qs, rsj, hs, gs, j, rfl, hhj.same sEF, haB.same sEF, hbB.same sEF, wj, wf, wg, hj, ?_, hwj, fun HG sG => ⟨_, rfl, iteF ?_⟩⟩
      · have := Nat.mul_le_mul hlj hfw
        omega
      · exact ⟨_, rfl, sEF.trans sG⟩
    · rintro σ HE ⟨v6, rfl, sE⟩
      exact k _
end
end Law

set_option maxHeartbeats 8000000
namespace Law
open PySem L2 Hs PyProof.Rows
section
end
/-! ### what the top has written -/
theorem all_mk {l : PySem.W.OpenLaw} {w : World} {K : PySem.W.Frag} {h : Heap} {mg : Str → Option Value} {fa0 : Addr} (X : K.In h) (G : h.Ns mainGlobals mg) (hfa : mg "law" = some (.ref fa0))
    {f_lay_out : Addr} {od_lay_out an_lay_out : Option Addr} {sl_lay_out : Array (Option Value)} {oc_lay_out kV_lay_out dc_lay_out pm_lay_out cd_lay_out ct_lay_out : Value}
    (a_lay_out : PySem.W.nsIn K mainGlobals "lay_out" = some (some (.ref f_lay_out))) (l_lay_out : K.lookup f_lay_out = some ⟨oc_lay_out, od_lay_out, .func (PySem.W.fnOf "lay_out" "lay_out" (defArgs (top 1)) (defBody (top 1)) (defScope (top 1)) .none kV_lay_out dc_lay_out pm_lay_out an_lay_out cd_lay_out ct_lay_out), sl_lay_out⟩) (c_lay_out : PySem.W.codeIn K cd_lay_out "lay_out" = true) (k_lay_out : PySem.W.keepIn K (.ref f_lay_out) = true)
    {f_exits_of : Addr} {od_exits_of an_exits_of : Option Addr} {sl_exits_of : Array (Option Value)} {oc_exits_of kV_exits_of dc_exits_of pm_exits_of cd_exits_of ct_exits_of : Value}
    (a_exits_of : PySem.W.nsIn K mainGlobals "exits_of" = some (some (.ref f_exits_of))) (l_exits_of : K.lookup f_exits_of = some ⟨oc_exits_of, od_exits_of, .func (PySem.W.fnOf "exits_of" "exits_of" (defArgs (top 3)) (defBody (top 3)) (defScope (top 3)) .none kV_exits_of dc_exits_of pm_exits_of an_exits_of cd_exits_of ct_exits_of), sl_exits_of⟩) (c_exits_of : PySem.W.codeIn K cd_exits_of "exits_of" = true) (k_exits_of : PySem.W.keepIn K (.ref f_exits_of) = true)
    {f_is_lit : Addr} {od_is_lit an_is_lit : Option Addr} {sl_is_lit : Array (Option Value)} {oc_is_lit kV_is_lit dc_is_lit pm_is_lit cd_is_lit ct_is_lit : Value}
    (a_is_lit : PySem.W.nsIn K mainGlobals "is_lit" = some (some (.ref f_is_lit))) (l_is_lit : K.lookup f_is_lit = some ⟨oc_is_lit, od_is_lit, .func (PySem.W.fnOf "is_lit" "is_lit" (defArgs (top 4)) (defBody (top 4)) (defScope (top 4)) .none kV_is_lit dc_is_lit pm_is_lit an_is_lit cd_is_lit ct_is_lit), sl_is_lit⟩) (c_is_lit : PySem.W.codeIn K cd_is_lit "is_lit" = true) (k_is_lit : PySem.W.keepIn K (.ref f_is_lit) = true)
    {f_exits_of_pair : Addr} {od_exits_of_pair an_exits_of_pair : Option Addr} {sl_exits_of_pair : Array (Option Value)} {oc_exits_of_pair kV_exits_of_pair dc_exits_of_pair pm_exits_of_pair cd_exits_of_pair ct_exits_of_pair : Value}
    (a_exits_of_pair : PySem.W.nsIn K mainGlobals "exits_of_pair" = some (some (.ref f_exits_of_pair))) (l_exits_of_pair : K.lookup f_exits_of_pair = some ⟨oc_exits_of_pair, od_exits_of_pair, .func (PySem.W.fnOf "exits_of_pair" "exits_of_pair" (defArgs (top 6)) (defBody (top 6)) (defScope (top 6)) .none kV_exits_of_pair dc_exits_of_pair pm_exits_of_pair an_exits_of_pair cd_exits_of_pair ct_exits_of_pair), sl_exits_of_pair⟩) (c_exits_of_pair : PySem.W.codeIn K cd_exits_of_pair "exits_of_pair" = true) (k_exits_of_pair : PySem.W.keepIn K (.ref f_exits_of_pair) = true)
    {f_exits_in_pairs : Addr} {od_exits_in_pairs an_exits_in_pairs : Option Addr} {sl_exits_in_pairs : Array (Option Value)} {oc_exits_in_pairs kV_exits_in_pairs dc_exits_in_pairs pm_exits_in_pairs cd_exits_in_pairs ct_exits_in_pairs : Value}
    (a_exits_in_pairs : PySem.W.nsIn K mainGlobals "exits_in_pairs" = some (some (.ref f_exits_in_pairs))) (l_exits_in_pairs : K.lookup f_exits_in_pairs = some ⟨oc_exits_in_pairs, od_exits_in_pairs, .func (PySem.W.fnOf "exits_in_pairs" "exits_in_pairs" (defArgs (top 7)) (defBody (top 7)) (defScope (top 7)) .none kV_exits_in_pairs dc_exits_in_pairs pm_exits_in_pairs an_exits_in_pairs cd_exits_in_pairs ct_exits_in_pairs), sl_exits_in_pairs⟩) (c_exits_in_pairs : PySem.W.codeIn K cd_exits_in_pairs "exits_in_pairs" = true) (k_exits_in_pairs : PySem.W.keepIn K (.ref f_exits_in_pairs) = true)
    {f_opposite : Addr} {od_opposite an_opposite : Option Addr} {sl_opposite : Array (Option Value)} {oc_opposite kV_opposite dc_opposite pm_opposite cd_opposite ct_opposite : Value}
    (a_opposite : PySem.W.nsIn K mainGlobals "opposite" = some (some (.ref f_opposite))) (l_opposite : K.lookup f_opposite = some ⟨oc_opposite, od_opposite, .func (PySem.W.fnOf "opposite" "opposite" (defArgs (top 9)) (defBody (top 9)) (defScope (top 9)) .none kV_opposite dc_opposite pm_opposite an_opposite cd_opposite ct_opposite), sl_opposite⟩) (c_opposite : PySem.W.codeIn K cd_opposite "opposite" = true) (k_opposite : PySem.W.keepIn K (.ref f_opposite) = true)
    {f_both : Addr} {od_both an_both : Option Addr} {sl_both : Array (Option Value)} {oc_both kV_both dc_both pm_both cd_both ct_both : Value}
    (a_both : PySem.W.nsIn K mainGlobals "both" = some (some (.ref f_both))) (l_both : K.lookup f_both = some ⟨oc_both, od_both, .func (PySem.W.fnOf "both" "both" (defArgs (top 10)) (defBody (top 10)) (defScope (top 10)) .none kV_both dc_both pm_both an_both cd_both ct_both), sl_both⟩) (c_both : PySem.W.codeIn K cd_both "both" = true) (k_both : PySem.W.keepIn K (.ref f_both) = true)
    {f_either : Addr} {od_either an_either : Option Addr} {sl_either : Array (Option Value)} {oc_either kV_either dc_either pm_either cd_either ct_either : Value}
    (a_either : PySem.W.nsIn K mainGlobals "either" = some (some (.ref f_either))) (l_either : K.lookup f_either = some ⟨oc_either, od_either, .func (PySem.W.fnOf "either" "either" (defArgs (top 11)) (defBody (top 11)) (defScope (top 11)) .none kV_either dc_either pm_either an_either cd_either ct_either), sl_either⟩) (c_either : PySem.W.codeIn K cd_either "either" = true) (k_either : PySem.W.keepIn K (.ref f_either) = true)
    {f_Lat : Addr} {od_Lat an_Lat : Option Addr} {sl_Lat : Array (Option Value)} {oc_Lat kV_Lat dc_Lat pm_Lat cd_Lat ct_Lat : Value}
    (a_Lat : PySem.W.nsIn K mainGlobals "_law_at" = some (some (.ref f_Lat))) (l_Lat : K.lookup f_Lat = some ⟨oc_Lat, od_Lat, .func (PySem.W.fnOf "_law_at" "_law_at" (defArgs (top 14)) (defBody (top 14)) (defScope (top 14)) .none kV_Lat dc_Lat pm_Lat an_Lat cd_Lat ct_Lat), sl_Lat⟩) (c_Lat : PySem.W.codeIn K cd_Lat "_law_at" = true) (k_Lat : PySem.W.keepIn K (.ref f_Lat) = true)
    {f_Ldrawn : Addr} {od_Ldrawn an_Ldrawn : Option Addr} {sl_Ldrawn : Array (Option Value)} {oc_Ldrawn kV_Ldrawn dc_Ldrawn pm_Ldrawn cd_Ldrawn ct_Ldrawn : Value}
    (a_Ldrawn : PySem.W.nsIn K mainGlobals "_law_drawn" = some (some (.ref f_Ldrawn))) (l_Ldrawn : K.lookup f_Ldrawn = some ⟨oc_Ldrawn, od_Ldrawn, .func (PySem.W.fnOf "_law_drawn" "_law_drawn" (defArgs (top 15)) (defBody (top 15)) (defScope (top 15)) .none kV_Ldrawn dc_Ldrawn pm_Ldrawn an_Ldrawn cd_Ldrawn ct_Ldrawn), sl_Ldrawn⟩) (c_Ldrawn : PySem.W.codeIn K cd_Ldrawn "_law_drawn" = true) (k_Ldrawn : PySem.W.keepIn K (.ref f_Ldrawn) = true)
    {f_Lis_house : Addr} {od_Lis_house an_Lis_house : Option Addr} {sl_Lis_house : Array (Option Value)} {oc_Lis_house kV_Lis_house dc_Lis_house pm_Lis_house cd_Lis_house ct_Lis_house : Value}
    (a_Lis_house : PySem.W.nsIn K mainGlobals "_law_is_house" = some (some (.ref f_Lis_house))) (l_Lis_house : K.lookup f_Lis_house = some ⟨oc_Lis_house, od_Lis_house, .func (PySem.W.fnOf "_law_is_house" "_law_is_house" (defArgs (top 16)) (defBody (top 16)) (defScope (top 16)) .none kV_Lis_house dc_Lis_house pm_Lis_house an_Lis_house cd_Lis_house ct_Lis_house), sl_Lis_house⟩) (c_Lis_house : PySem.W.codeIn K cd_Lis_house "_law_is_house" = true) (k_Lis_house : PySem.W.keepIn K (.ref f_Lis_house) = true)
    {f_Lwhole : Addr} {od_Lwhole an_Lwhole : Option Addr} {sl_Lwhole : Array (Option Value)} {oc_Lwhole kV_Lwhole dc_Lwhole pm_Lwhole cd_Lwhole ct_Lwhole : Value}
    (a_Lwhole : PySem.W.nsIn K mainGlobals "_law_whole" = some (some (.ref f_Lwhole))) (l_Lwhole : K.lookup f_Lwhole = some ⟨oc_Lwhole, od_Lwhole, .func (PySem.W.fnOf "_law_whole" "_law_whole" (defArgs (top 13)) (defBody (top 13)) (defScope (top 13)) .none kV_Lwhole dc_Lwhole pm_Lwhole an_Lwhole cd_Lwhole ct_Lwhole), sl_Lwhole⟩) (c_Lwhole : PySem.W.codeIn K cd_Lwhole "_law_whole" = true) (k_Lwhole : PySem.W.keepIn K (.ref f_Lwhole) = true)
    {f_Lunhurt : Addr} {od_Lunhurt an_Lunhurt : Option Addr} {sl_Lunhurt : Array (Option Value)} {oc_Lunhurt kV_Lunhurt dc_Lunhurt pm_Lunhurt cd_Lunhurt ct_Lunhurt : Value}
    (a_Lunhurt : PySem.W.nsIn K mainGlobals "_law_unhurt" = some (some (.ref f_Lunhurt))) (l_Lunhurt : K.lookup f_Lunhurt = some ⟨oc_Lunhurt, od_Lunhurt, .func (PySem.W.fnOf "_law_unhurt" "_law_unhurt" (defArgs (top 17)) (defBody (top 17)) (defScope (top 17)) .none kV_Lunhurt dc_Lunhurt pm_Lunhurt an_Lunhurt cd_Lunhurt ct_Lunhurt), sl_Lunhurt⟩) (c_Lunhurt : PySem.W.codeIn K cd_Lunhurt "_law_unhurt" = true) (k_Lunhurt : PySem.W.keepIn K (.ref f_Lunhurt) = true)
    {f_Lagrees : Addr} {od_Lagrees an_Lagrees : Option Addr} {sl_Lagrees : Array (Option Value)} {oc_Lagrees kV_Lagrees dc_Lagrees pm_Lagrees cd_Lagrees ct_Lagrees : Value}
    (a_Lagrees : PySem.W.nsIn K mainGlobals "_law_agrees" = some (some (.ref f_Lagrees))) (l_Lagrees : K.lookup f_Lagrees = some ⟨oc_Lagrees, od_Lagrees, .func (PySem.W.fnOf "_law_agrees" "_law_agrees" (defArgs (top 18)) (defBody (top 18)) (defScope (top 18)) .none kV_Lagrees dc_Lagrees pm_Lagrees an_Lagrees cd_Lagrees ct_Lagrees), sl_Lagrees⟩) (c_Lagrees : PySem.W.codeIn K cd_Lagrees "_law_agrees" = true) (k_Lagrees : PySem.W.keepIn K (.ref f_Lagrees) = true)
    {f_Lwide : Addr} {od_Lwide an_Lwide : Option Addr} {sl_Lwide : Array (Option Value)} {oc_Lwide kV_Lwide dc_Lwide pm_Lwide cd_Lwide ct_Lwide : Value}
    (a_Lwide : PySem.W.nsIn K mainGlobals "_law_wide" = some (some (.ref f_Lwide))) (l_Lwide : K.lookup f_Lwide = some ⟨oc_Lwide, od_Lwide, .func (PySem.W.fnOf "_law_wide" "_law_wide" (defArgs (top 19)) (defBody (top 19)) (defScope (top 19)) .none kV_Lwide dc_Lwide pm_Lwide an_Lwide cd_Lwide ct_Lwide), sl_Lwide⟩) (c_Lwide : PySem.W.codeIn K cd_Lwide "_law_wide" = true) (k_Lwide : PySem.W.keepIn K (.ref f_Lwide) = true)
    {f_law : Addr} {od_law an_law : Option Addr} {sl_law : Array (Option Value)} {oc_law kV_law dc_law pm_law cd_law ct_law : Value}
    (a_law : PySem.W.nsIn K mainGlobals "law" = some (some (.ref f_law))) (l_law : K.lookup f_law = some ⟨oc_law, od_law, .func (PySem.W.fnOf "law" "law" (defArgs (top 20)) (defBody (top 20)) (defScope (top 20)) .none kV_law dc_law pm_law an_law cd_law ct_law), sl_law⟩) (c_law : PySem.W.codeIn K cd_law "law" = true) (k_law : PySem.W.keepIn K (.ref f_law) = true)
    
    {cm0 Pm0 : Addr} (hcd0 : cd_exits_in_pairs = .ref cm0) {cm1 Pm1 : Addr} (hcd1 : cd_both = .ref cm1) {cm2 Pm2 : Addr} (hcd2 : cd_either = .ref cm2) (ndP : ([Pm0, Pm1, Pm2] : List Addr).Nodup)
    (z0 : PySem.W.nsIn K mainGlobals "len" = some none) (z1 : PySem.W.nsIn K mainGlobals "max" = some none) (z2 : PySem.W.nsIn K mainGlobals "range" = some none) (z3 : PySem.W.nsIn K mainGlobals "isinstance" = some none) (z4 : PySem.W.nsIn K mainGlobals "int" = some none) (z5 : PySem.W.nsIn K mainGlobals "bool" = some none) (z6 : PySem.W.nsIn K mainGlobals "str" = some none) (z7 : PySem.W.nsIn K mainGlobals "list" = some none) (z8 : PySem.W.nsIn K mainGlobals "tuple" = some none) (z9 : PySem.W.nsIn K mainGlobals "zip" = some none)  :
    ∃ fd : FuncData, (∀ (s : Shared) (v : Value), BindsTo s fd ⟨[v], []⟩ [("_law_script", v)]) ∧ ∀ base : Heap, K.In base → base.Ns mainGlobals mg → PySem.W.CodeAll [(cm0, Pm0), (cm1, Pm1), (cm2, Pm2)] base → BMain mg base → FnOk l.prog w K mg base CX0 6 fa0 fd ["_law_script"] (spLaw K [(Pm0, lamQs "exits_in_pairs"), (Pm1, defQs "both" "lit"), (Pm2, defQs "either" "lit")]) := by
  subst hcd0; subst hcd1; subst hcd2
  have T : Blt mg := ⟨PySem.W.mg_none_of X G z0, PySem.W.mg_none_of X G z1, PySem.W.mg_none_of X G z2, PySem.W.mg_none_of X G z3, PySem.W.mg_none_of X G z4, PySem.W.mg_none_of X G z5, PySem.W.mg_none_of X G z6, PySem.W.mg_none_of X G z7, PySem.W.mg_none_of X G z8, PySem.W.mg_none_of X G z9⟩
  skip
  skip
  have F_lay_out := fun_mk (st := top 1) l_lay_out c_lay_out k_lay_out
  have D_lay_out : Df K mg "lay_out" 1 ["start", "exits", "lit"] _ _ := ⟨F_lay_out, PySem.W.mg_of X G a_lay_out, F_lay_out.binds (ps := ["start", "exits", "lit"]) fun _ _ _ _ _ _ us hl => match us, hl with | [_, _, _], _ => rfl⟩
  have F_exits_of := fun_mk (st := top 3) l_exits_of c_exits_of k_exits_of
  have D_exits_of : Df K mg "exits_of" 3 ["house", "room"] _ _ := ⟨F_exits_of, PySem.W.mg_of X G a_exits_of, F_exits_of.binds (ps := ["house", "room"]) fun _ _ _ _ _ _ us hl => match us, hl with | [_, _], _ => rfl⟩
  have F_is_lit := fun_mk (st := top 4) l_is_lit c_is_lit k_is_lit
  have D_is_lit : Df K mg "is_lit" 4 ["house", "room"] _ _ := ⟨F_is_lit, PySem.W.mg_of X G a_is_lit, F_is_lit.binds (ps := ["house", "room"]) fun _ _ _ _ _ _ us hl => match us, hl with | [_, _], _ => rfl⟩
  have F_exits_of_pair := fun_mk (st := top 6) l_exits_of_pair c_exits_of_pair k_exits_of_pair
  have D_exits_of_pair : Df K mg "exits_of_pair" 6 ["one", "other", "pair"] _ _ := ⟨F_exits_of_pair, PySem.W.mg_of X G a_exits_of_pair, F_exits_of_pair.binds (ps := ["one", "other", "pair"]) fun _ _ _ _ _ _ us hl => match us, hl with | [_, _, _], _ => rfl⟩
  have F_exits_in_pairs := fun_mk (st := top 7) l_exits_in_pairs c_exits_in_pairs k_exits_in_pairs
  have D_exits_in_pairs : Df K mg "exits_in_pairs" 7 ["one", "other"] _ _ := ⟨F_exits_in_pairs, PySem.W.mg_of X G a_exits_in_pairs, F_exits_in_pairs.binds (ps := ["one", "other"]) fun _ _ _ _ _ _ us hl => match us, hl with | [_, _], _ => rfl⟩
  have F_opposite := fun_mk (st := top 9) l_opposite c_opposite k_opposite
  have D_opposite : Df K mg "opposite" 9 ["house"] _ _ := ⟨F_opposite, PySem.W.mg_of X G a_opposite, F_opposite.binds (ps := ["house"]) fun _ _ _ _ _ _ us hl => match us, hl with | [_], _ => rfl⟩
  have F_both := fun_mk (st := top 10) l_both c_both k_both
  have D_both : Df K mg "both" 10 ["one", "other"] _ _ := ⟨F_both, PySem.W.mg_of X G a_both, F_both.binds (ps := ["one", "other"]) fun _ _ _ _ _ _ us hl => match us, hl with | [_, _], _ => rfl⟩
  have F_either := fun_mk (st := top 11) l_either c_either k_either
  have D_either : Df K mg "either" 11 ["one", "other"] _ _ := ⟨F_either, PySem.W.mg_of X G a_either, F_either.binds (ps := ["one", "other"]) fun _ _ _ _ _ _ us hl => match us, hl with | [_, _], _ => rfl⟩
  have F_Lat := fun_mk (st := top 14) l_Lat c_Lat k_Lat
  have D_Lat : Df K mg "_law_at" 14 ["_law_script", "_law_k"] _ _ := ⟨F_Lat, PySem.W.mg_of X G a_Lat, F_Lat.binds (ps := ["_law_script", "_law_k"]) fun _ _ _ _ _ _ us hl => match us, hl with | [_, _], _ => rfl⟩
  have F_Ldrawn := fun_mk (st := top 15) l_Ldrawn c_Ldrawn k_Ldrawn
  have D_Ldrawn : Df K mg "_law_drawn" 15 ["_law_cells"] _ _ := ⟨F_Ldrawn, PySem.W.mg_of X G a_Ldrawn, F_Ldrawn.binds (ps := ["_law_cells"]) fun _ _ _ _ _ _ us hl => match us, hl with | [_], _ => rfl⟩
  have F_Lis_house := fun_mk (st := top 16) l_Lis_house c_Lis_house k_Lis_house
  have D_Lis_house : Df K mg "_law_is_house" 16 ["_law_found"] _ _ := ⟨F_Lis_house, PySem.W.mg_of X G a_Lis_house, F_Lis_house.binds (ps := ["_law_found"]) fun _ _ _ _ _ _ us hl => match us, hl with | [_], _ => rfl⟩
  have F_Lwhole := fun_mk (st := top 13) l_Lwhole c_Lwhole k_Lwhole
  have D_Lwhole : Df K mg "_law_whole" 13 ["_law_found"] _ _ := ⟨F_Lwhole, PySem.W.mg_of X G a_Lwhole, F_Lwhole.binds (ps := ["_law_found"]) fun _ _ _ _ _ _ us hl => match us, hl with | [_], _ => rfl⟩
  have F_Lunhurt := fun_mk (st := top 17) l_Lunhurt c_Lunhurt k_Lunhurt
  have D_Lunhurt : Df K mg "_law_unhurt" 17 ["_law_handed", "_law_house"] _ _ := ⟨F_Lunhurt, PySem.W.mg_of X G a_Lunhurt, F_Lunhurt.binds (ps := ["_law_handed", "_law_house"]) fun _ _ _ _ _ _ us hl => match us, hl with | [_, _], _ => rfl⟩
  have F_Lagrees := fun_mk (st := top 18) l_Lagrees c_Lagrees k_Lagrees
  have D_Lagrees : Df K mg "_law_agrees" 18 ["_law_found", "_law_one", "_law_other", "_law_way"] _ _ := ⟨F_Lagrees, PySem.W.mg_of X G a_Lagrees, F_Lagrees.binds (ps := ["_law_found", "_law_one", "_law_other", "_law_way"]) fun _ _ _ _ _ _ us hl => match us, hl with | [_, _, _, _], _ => rfl⟩
  have F_Lwide := fun_mk (st := top 19) l_Lwide c_Lwide k_Lwide
  have D_Lwide : Df K mg "_law_wide" 19 ["_law_script", "_law_most", "_law_bound"] _ _ := ⟨F_Lwide, PySem.W.mg_of X G a_Lwide, F_Lwide.binds (ps := ["_law_script", "_law_most", "_law_bound"]) fun _ _ _ _ _ _ us hl => match us, hl with | [_, _, _], _ => rfl⟩
  have F_law := fun_mk (st := top 20) l_law c_law k_law
  have D_law : Df K mg "law" 20 ["_law_script"] _ _ := ⟨F_law, PySem.W.mg_of X G a_law, F_law.binds (ps := ["_law_script"]) fun _ _ _ _ _ _ us hl => match us, hl with | [_], _ => rfl⟩
  have e := hfa.symm.trans (PySem.W.mg_of X G a_law)
  cases e
  refine ⟨PySem.W.fnOf "law" "law" (defArgs (top 20)) (defBody (top 20)) (defScope (top 20)) .none kV_law dc_law pm_law an_law cd_law ct_law, ?b, fun base _ _ hC hB => ?m⟩
  case m =>
    have nd : (([(Pm0, lamQs "exits_in_pairs"), (Pm1, defQs "both" "lit"), (Pm2, defQs "either" "lit")] : Tbs).map (·.1)).Nodup := ndP
    have M0 : Mkr base (PySem.W.fnOf "exits_in_pairs" "exits_in_pairs" (defArgs (top 7)) (defBody (top 7)) (defScope (top 7)) .none kV_exits_in_pairs dc_exits_in_pairs pm_exits_in_pairs an_exits_in_pairs (.ref cm0) ct_exits_in_pairs) ([(Pm0, lamQs "exits_in_pairs"), (Pm1, defQs "both" "lit"), (Pm2, defQs "either" "lit")] : Tbs) cm0 Pm0 (lamQs "exits_in_pairs") := ⟨rfl, hC.1, by simp⟩
    have M1 : Mkr base (PySem.W.fnOf "both" "both" (defArgs (top 10)) (defBody (top 10)) (defScope (top 10)) .none kV_both dc_both pm_both an_both (.ref cm1) ct_both) ([(Pm0, lamQs "exits_in_pairs"), (Pm1, defQs "both" "lit"), (Pm2, defQs "either" "lit")] : Tbs) cm1 Pm1 (defQs "both" "lit") := ⟨rfl, hC.2.1, by simp⟩
    have M2 : Mkr base (PySem.W.fnOf "either" "either" (defArgs (top 11)) (defBody (top 11)) (defScope (top 11)) .none kV_either dc_either pm_either an_either (.ref cm2) ct_either) ([(Pm0, lamQs "exits_in_pairs"), (Pm1, defQs "both" "lit"), (Pm2, defQs "either" "lit")] : Tbs) cm2 Pm2 (defQs "either" "lit") := ⟨rfl, hC.2.2.1, by simp⟩
    exact ok_law D_law.fn T hB nd M0 M1 M2 D_lay_out D_exits_of D_is_lit D_exits_of_pair D_exits_in_pairs D_opposite D_both D_either D_Lat D_Ldrawn D_Lis_house D_Lwhole D_Lunhurt D_Lagrees D_Lwide
  case b => exact fun s v => .of_eq rfl
theorem walk {l : PySem.W.OpenLaw} {q : Program} {loose : List Str} {XP : (Str → Option Value) → Heap → Prop} {YP : World → Heap → Prop} {d d0 d1 d2 : DefRec} {K : Params → PySem.W.Frag} {cm0 Pm0 cm1 Pm1 cm2 Pm2 : Addr} (hn : l.most = some 63) (hdf : d.params.defaults = [])
    (hY : ∀ (w : World) (h : Heap), YP w h → (K w.params).In h) (hKT : ∀ w : World, PySem.W.noTabs (K w.params) = true) (hx0 : (recsOf q).find? (fun e => e.name == ("exits_in_pairs" : Str)) = some d0) (hx1 : (recsOf q).find? (fun e => e.name == ("both" : Str)) = some d1) (hx2 : (recsOf q).find? (fun e => e.name == ("either" : Str)) = some d2) (htb0 : ∀ w : World, PySem.W.tabIn (K w.params) "exits_in_pairs" = some (cm0, Pm0)) (htb1 : ∀ w : World, PySem.W.tabIn (K w.params) "both" = some (cm1, Pm1)) (htb2 : ∀ w : World, PySem.W.tabIn (K w.params) "either" = some (cm2, Pm2))
    (F : ∀ (w : World) (mg : Str → Option Value) (fa : Addr) (h : Heap), (K w.params).In h → h.Ns mainGlobals mg → mg d.name = some (.ref fa) →
      ∃ fd : FuncData, (∀ (s : Shared) (u : Value), BindsTo s fd ⟨[u], []⟩ [("_law_script", u)]) ∧ ∀ base : Heap, (K w.params).In base → base.Ns mainGlobals mg → PySem.W.CodeAll [(cm0, Pm0), (cm1, Pm1), (cm2, Pm2)] base → BMain mg base → FnOk l.prog w (K w.params) mg base CX0 6 fa fd ["_law_script"] (spLaw (K w.params) [(Pm0, lamQs "exits_in_pairs"), (Pm1, defQs "both" "lit"), (Pm2, defQs "either" "lit")])) :
    PySem.W.WalkO q loose XP YP l.row.toRowW d [] (fun f vs => PySem.call f vs) := by
  refine L2.walk_ofT (n := 63) (k := 6) (x := "_law_script") (CX := fun _ => CX0) (sp := fun w => spLaw (K w.params) [(Pm0, lamQs "exits_in_pairs"), (Pm1, defQs "both" "lit"), (Pm2, defQs "either" "lit")]) (tabs := [(cm0, Pm0), (cm1, Pm1), (cm2, Pm2)]) (xs := [("exits_in_pairs", d0), ("both", d1), ("either", d2)]) hn (by decide) hdf ⟨rfl, by decide, by decide⟩ hY hKT ?_ ?_ F ?_ fun _ _ _ _ _ z => z
  · intro y hy
    simp only [List.mem_cons, List.not_mem_nil, or_false] at hy
    rcases hy with rfl | rfl | rfl
    · exact hx0
    · exact hx1
    · exact hx2
  · intro w t ht
    simp only [List.mem_cons, List.not_mem_nil, or_false] at ht
    rcases ht with rfl | rfl | rfl
    · exact ⟨("exits_in_pairs", d0), by simp, htb0 w⟩
    · exact ⟨("both", d1), by simp, htb1 w⟩
    · exact ⟨("either", d2), by simp, htb2 w⟩
  · intro w H a ns hl hS hT
    refine ⟨a, ns, rfl, hS, hl, fun t ht => ?_, fun _ => rfl⟩
    simp only [List.mem_cons, List.not_mem_nil, or_false] at ht
    rcases ht with rfl | rfl | rfl
    · exact Tab.start (hT (cm0, Pm0) (by simp))
    · exact Tab.start (hT (cm1, Pm1) (by simp))
    · exact Tab.start (hT (cm2, Pm2) (by simp))
end Law
open PySem PySem.W PyProof.Rows
set_option maxRecDepth 100000 in
set_option maxHeartbeats 0 in
theorem PySem.Challenge.cw_turnhouse_k05_opposite_both_either_holds : PySem.Challenge.rw_turnhouse_k05_opposite_both_either.Holds := by
  w_on; o_law; k_head; (case hw => w_witness2)
  k_fill
  skip
  refine Law.walk (l := PySem.Challenge.rw_turnhouse_k05_opposite_both_either) (cm0 := 48) (Pm0 := 44) (cm1 := 60) (Pm1 := 56) (cm2 := 67) (Pm2 := 63) rfl rfl (fun w h Y => PySem.W.km_in_of Y) (fun w => by kernel_rfl) rfl rfl rfl (fun w => by kernel_rfl) (fun w => by kernel_rfl) (fun w => by kernel_rfl) ?F
  case F =>
    intro w mg fa h KX G hmg
    refine' Law.all_mk KX G hmg ?a_lay_out ?l_lay_out ?c_lay_out ?k_lay_out ?a_exits_of ?l_exits_of ?c_exits_of ?k_exits_of ?a_is_lit ?l_is_lit ?c_is_lit ?k_is_lit ?a_exits_of_pair ?l_exits_of_pair ?c_exits_of_pair ?k_exits_of_pair ?a_exits_in_pairs ?l_exits_in_pairs ?c_exits_in_pairs ?k_exits_in_pairs ?a_opposite ?l_opposite ?c_opposite ?k_opposite ?a_both ?l_both ?c_both ?k_both ?a_either ?l_either ?c_either ?k_either ?a_Lat ?l_Lat ?c_Lat ?k_Lat ?a_Ldrawn ?l_Ldrawn ?c_Ldrawn ?k_Ldrawn ?a_Lis_house ?l_Lis_house ?c_Lis_house ?k_Lis_house ?a_Lwhole ?l_Lwhole ?c_Lwhole ?k_Lwhole ?a_Lunhurt ?l_Lunhurt ?c_Lunhurt ?k_Lunhurt ?a_Lagrees ?l_Lagrees ?c_Lagrees ?k_Lagrees ?a_Lwide ?l_Lwide ?c_Lwide ?k_Lwide ?a_law ?l_law ?c_law ?k_law  ?hcd0 ?hcd1 ?hcd2 ?ndP ?z0 ?z1 ?z2 ?z3 ?z4 ?z5 ?z6 ?z7 ?z8 ?z9
    (case a_lay_out => k_is); (case l_lay_out => k_is); (case c_lay_out => k_is); (case k_lay_out => k_is); (case a_exits_of => k_is); (case l_exits_of => k_is); (case c_exits_of => k_is); (case k_exits_of => k_is); (case a_is_lit => k_is); (case l_is_lit => k_is); (case c_is_lit => k_is); (case k_is_lit => k_is); (case a_exits_of_pair => k_is); (case l_exits_of_pair => k_is); (case c_exits_of_pair => k_is); (case k_exits_of_pair => k_is); (case a_exits_in_pairs => k_is); (case l_exits_in_pairs => k_is); (case c_exits_in_pairs => k_is); (case k_exits_in_pairs => k_is); (case a_opposite => k_is); (case l_opposite => k_is); (case c_opposite => k_is); (case k_opposite => k_is); (case a_both => k_is); (case l_both => k_is); (case c_both => k_is); (case k_both => k_is); (case a_either => k_is); (case l_either => k_is); (case c_either => k_is); (case k_either => k_is); (case a_Lat => k_is); (case l_Lat => k_is); (case c_Lat => k_is); (case k_Lat => k_is); (case a_Ldrawn => k_is); (case l_Ldrawn => k_is); (case c_Ldrawn => k_is); (case k_Ldrawn => k_is); (case a_Lis_house => k_is); (case l_Lis_house => k_is); (case c_Lis_house => k_is); (case k_Lis_house => k_is); (case a_Lwhole => k_is); (case l_Lwhole => k_is); (case c_Lwhole => k_is); (case k_Lwhole => k_is); (case a_Lunhurt => k_is); (case l_Lunhurt => k_is); (case c_Lunhurt => k_is); (case k_Lunhurt => k_is); (case a_Lagrees => k_is); (case l_Lagrees => k_is); (case c_Lagrees => k_is); (case k_Lagrees => k_is); (case a_Lwide => k_is); (case l_Lwide => k_is); (case c_Lwide => k_is); (case k_Lwide => k_is); (case a_law => k_is); (case l_law => k_is); (case c_law => k_is); (case k_law => k_is);  (case hcd0 => rfl); (case hcd1 => rfl); (case hcd2 => rfl); (case ndP => decide); (case z0 => k_is); (case z1 => k_is); (case z2 => k_is); (case z3 => k_is); (case z4 => k_is); (case z5 => k_is); (case z6 => k_is); (case z7 => k_is); (case z8 => k_is); (case z9 => k_is)
#print axioms PySem.Challenge.cw_turnhouse_k05_opposite_both_either_holds
